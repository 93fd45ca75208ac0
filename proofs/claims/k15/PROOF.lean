import PyProof.Rows.All
import Wide.All
import OpenK.AllK
import Wide.FinOn
import PyProof.EqAt
import PyProof.EqKinds
import PyProof.TupleCall
import Lean
import PySem.Challenge.RW_onceroad_k15_refused_in_plays
set_option Elab.async false
set_option linter.all false
set_option maxRecDepth 100000
local macro_rules | `(tactic| show $e)=>`(tactic| refine $e)
abbrev LY:=List Int
abbrev LX:=List PySem.Addr
abbrev LQ:=List Nat
abbrev LN:=List PySem.Str
abbrev LS:=List (PySem.Str×PySem.Str)
local macro_rules | `(tactic| room)=>`(tactic| decide +kernel)
local macro_rules | `(tactic| lk)=>`(tactic| first | lia | omega)
set_option hygiene false
local macro_rules | `(wqW $a $b $c $d)=>`(DefOk P w K mg base CX0 $a $b $c $d)
local macro_rules | `(wqX $a $b $c $d $e)=>`(MethOk P w K mg base CX0 $a $b $c $d $e)
local macro_rules | `(wqY $a $b $c $d $e)=>`(FnOk P w K mg base CX0 $a $b $c $d $e)
local macro_rules | `(wqZ $a $b $c $d $e)=>`(MakeOk P w K mg base CX0 $a $b $c $d $e)
set_option hygiene true
noncomputable section
abbrev wh:LN:=["self"]
abbrev wqa:LN:=["self","found"]
abbrev wqb:LN:=["_law_script","_law_names_here","_law_ties_here","_law_web","_law_trail","_law_play","_law_number","_law_moves_here","_law_state_here","_law_k","_law_door_here","_law_pick","_law_at","_law_bad","_law_deed","_law_due","_law_kept"]
abbrev wqc:LN:=["_law_names_here","_law_cell_here","_law_pool","_law_k","_law_most","_law_bases","_law_numbers_here","_law_found","_law_number","_law_one","_law_other"]
abbrev wqd:LN:=["_law_web","_law_start","_law_names_here","_law_bad"]
abbrev wqe:LN:=["_law_web","_law_bad"]
abbrev wqf:LN:=["_law_start","_law_play","_law_names_here"]
abbrev wqg:LN:=["_law_cell_here","_law_long","_law_few","_law_many","_law_start","_law_step","_law_tail","_law_rest","_law_size","_law_letters","_law_end"]
abbrev wqh:LN:=["_law_door_here","_law_web","_law_play","_law_names_here","_law_bad","_law_start","_law_many","_law_more","_law_thing_here","_law_fresh"]
abbrev wqi:LN:=["self","web","start"]
abbrev wqj:LN:=["_law_door_here","_law_web","_law_play","_law_names_here","_law_bad","_law_start"]
abbrev wqk:LN:=["_law_names_here","_law_ties_here","_law_trail"]
abbrev wql:LN:=["self","name"]
abbrev wqm:LN:=["self","place"]
abbrev wqn:LN:=["_law_cell_here","_law_bases","_law_prime"]
abbrev wqo:List String:=["NoneType","bool","int","str","list","tuple","dict"]
abbrev wqp:LN:=["_law_web","_law_thing_here"]
abbrev wqq:LN:=["self","thing"]
abbrev wqr:LN:=["self","text"]
abbrev wqs:LN:=["play","many"]
abbrev wqt:LN:=["_law_play","_law_many"]
abbrev wqu:LN:=["_law_play","_law_more"]
abbrev wqv:LN:=["_law_ties_here","_law_one","_law_other"]
abbrev wqw:LN:=["_law_play","_law_bad"]
abbrev wqx:LN:=["self","names","ties"]
abbrev wqy:LN:=["numbers","thing"]
abbrev wqz:LN:=["self","places","out","place","names","kept"]
abbrev wqA:LN:=["_law_k","_law_end","_law_letters","_law_start","_law_step"]
abbrev wqB:LN:=["thing","low","high"]
abbrev wqC:LN:=["_law_names_here","_law_cell_here"]
abbrev wqD:List String:=["ValueError","Exception","BaseException","object"]
abbrev wqE:LN:=["web","text"]
abbrev wqF:LN:=["_law_fresh"]
abbrev wqG:LN:=["_law_script","_law_k"]
abbrev wqH:LN:=["self","names"]
abbrev wqI:LN:=["_law_names_here","_law_pick"]
abbrev wqJ:LN:=["self","many"]
abbrev wqK:LN:=["thing"]
abbrev wqL:LN:=["_law_name","_law_trail","_law_ties_here"]
abbrev wqM:LN:=["bits","number"]
abbrev wqN:LN:=["_law_other","_law_names_here","_law_k"]
abbrev wqO:LN:=["_law_deed"]
abbrev wqP:LN:=["self","bits"]
abbrev wqQ:LN:=["web","names"]
abbrev wqR:LN:=["self","at"]
abbrev wqS:LN:=["_law_script"]
abbrev wqT:LN:=["numbers","ties"]
abbrev wqU:LN:=["_law_cell_here"]
abbrev wqV:LN:=["_law_play"]
theorem wq0:1<=PySem.sizeLine:=by decide
theorem wq1:2<=PySem.sizeLine:=by decide
theorem wq2:4<=PySem.sizeLine:=by decide
theorem ya{b c:Type}{a:List b}(f:b→c):(a.map f).length=a.length:=List.length_map f
theorem yb{a:Type}{l:List a}{i:Nat}(h:i<l.length):l[i]?=some l[i]:=List.getElem?_eq_getElem h
theorem yc{b:Type}{l:List b}{i:Nat}{a:b}:l[i]?=some a↔∃h:i<l.length,l[i]=a:=List.getElem?_eq_some_iff
theorem yd{a b:Type}{f:a→b}{l:List a}{i:Nat}:(l.map f)[i]?=l[i]?.map f:=List.getElem?_map
theorem ye{b:Type}{l:List b}{i:Nat}{a:b}(h:l[i]?=some a):a∈l:=List.mem_of_getElem? h
abbrev yf:=PySem.W.Frag
theorem yg(n:Nat):n≤n:=Nat.le_refl n
theorem yh{a b c:Nat}(h:a≤b)(k:b≤c):a≤c:=Nat.le_trans h k
theorem yi{a b c:Nat}(h:a<b)(k:b≤c):a<c:=Nat.lt_of_lt_of_le h k
theorem yj{p:Prop}[Decidable p](h:decide p=true):p:=of_decide_eq_true h
theorem yk{p:Prop}[Decidable p](h:¬p):decide p=false:=decide_eq_false h
theorem yl{c:Type}{a b:c}(h:some a=some b):a=b:=Option.some.inj h
theorem ym{b:Type}{a:b}{l:List b}:(a::l).Nodup↔a∉l∧l.Nodup:=List.nodup_cons
theorem yn{a:Type}{p:a→Bool}{b:List a}{x:a}:x∈b.filter p↔x∈b∧p x=true:=List.mem_filter
theorem yo{A B:Prop}(h:B):if false=true then A else B:=h
def yp:=@PySem.wpAny_bind
def yq:=@PySem.Heap.get?_push_of_some
def yr:=@List.size_toArray
def yt:=@List.mem_cons
def yu:=@PySem.wpAny_pure
def yv:=@List.not_mem_nil
def yw:=@if_neg
def yx:=@List.length_append
def yy:=@PySem.Heap.lt_size
def yz:=@List.mem_cons_of_mem
def yA:=@List.mem_singleton
def yB:=@if_pos
def yC:=@List.mem_cons_self
def yD:=@List.map_append
def yE:=@List.mem_append_right
def yF:=@Bool.and_eq_true
def yG:=@Nat.ne_of_lt
def yH:=@PySem.F.plainAttrs_list
def yI:=@PySem.Heap.get?_push_size
def yJ:=@Or.inl
def yK:=@List.mem_map
def yL:=@decide_eq_true
def yM:=@beq_iff_eq
def yN:=@or_false
def yO:=@PyProof.Rows.boot_isinstance
def yP:=@List.map_cons
def yQ:=@List.getElem?_append_left
def yR:=@Int.emod_lt_of_pos
def yS:=@List.getElem?_append_right
def yT:=@List.take_add_one
def yU:=@Nat.lt_irrefl
def yV:=@Bool.false_ne_true
def yW:=@List.contains_cons
def yX:=@decide_eq_true_iff
def yY:=@Int.emod_nonneg
def yZ:=@beq_eq_false_iff_ne
def Yb:=@List.length_cons
def Yc:=@List.length_take
def Yd:=@PySem.wpAny_mono
def Ye:=@List.take_length
def Yg:=@PySem.Heap.get?_update_other
def Yh:=@PySem.F.slot_list_append
def Yi:=@PySem.F.type_list_append
def Yj:=@List.mem_append
def Yk:=@PySem.wpAny_holding
def Yl:=@PySem.wpAny_loadPart_at
def Ym:=@Nat.le_of_lt
def Yn:=@Bool.eq_iff_iff
def Yo:=@List.all_eq_true
def Yp:=@True.intro
def Yq:=@PySem.W.looks_findIn
def Yr:=@PySem.wpAny_Call_Name_kw
def Ys:=@List.filter_append
def Yt:=@List.append_nil
def Yu:=@List.take_of_length_le
def Yv:=@List.filterMap_cons
def Yx:=@PySem.mem_of_lookup
def Yy:=@PySem.wpAny_truthy_bool
def Yz:=@Int.toNat_natCast
def YA:=@PySem.wpAny_of_eq
def YB:=@List.length_replicate
def YC:=@List.length_filter_le
def YD:=@PySem.F.slot_NoneType_eq
def YE:=@PySem.W.mg_none_of
def YF:=@PySem.W.callWith_K
def YG:=@Nat.lt_of_le_of_lt
def YH:=@PySem.boot_len
def YI:=@List.idxOf_lt_length_of_mem
def YJ:=@PySem.F.excBase_ValueError
def YK:=@List.pairwise_iff_getElem
def YL:=@PySem.W.methodCall_KW
def YM:=@List.getElem_idxOf
def YN:=@PySem.codeAny_mono
def YO:=@List.mem_append_left
def YQ:=@PySem.Heap.size_push
def YR:=@List.flatMap_cons
def YS:=@List.replicate_succ
def YT:=@PySem.W.looks_mroIn
def YU:=@PySem.wpAny_isSubtype_exc
def YV:=@List.length_pos_iff
def YW:=@Ne.symm
def YX:=@Nat.zero_le
def YY:=@beq_self_eq_true
def YZ:=@PySem.wpAny_call
def xi:=@PySem.call_meets
def xj:=@List.lookup_append
def xk:=@Array.getElem?_eq_some_iff
def xl:=@PySem.Heap.get?_update_self
def xm:=@PySem.W.mg_of
def xn:=@PySem.F.slot_dict_eq_refl
def xo:=@Array.getElem?_eq_getElem
def xp:=@List.find?_cons
def xq:=@PySem.PassesOwn.never
def xr:=@PySem.wpAny_newObj_type
def xt:=@PySem.codeAny_call_builtin
def xu:=@List.length_range
def xv:=@List.exists_of_findSome?_eq_some
def xw:=@Nat.zero_add
def xx:=@PyProof.Rows.slot_tuple_getitem
def xy:=@Array.length_toList
def xz:=@PySem.W.any_some
def xA:=@List.lookup_cons
def xB:=@List.any_eq_true
def xC:=@PySem.wpAny_getItem_str_slice
def xD:=@Int.eq_ofNat_of_zero_le
def xE:=@List.getElem?_set_self
def xF:=@List.length_nil
def xG:=@PySem.wpAny_standAt
def xH:=@Array.getElem?_toList
def xI:=@if_true
def xJ:=@List.flatten_cons
def xK:=@List.append_assoc
def xL:=@List.nodup_append
def xM:=@List.getElem?_set_ne
def xN:=@Nat.le_succ
def xO:=@Or.inr
def xP:=@PySem.wpAny_execs_cons
def xQ:=@List.length_drop
def xR:=@List.getElem_mem
def xS:=@decide_eq_decide
def xT:=@List.filter_cons
def xU:=@List.drop_eq_getElem_cons
def xV:=@PySem.wpAny_passesOwn
def xW:=@Nat.min_eq_left
def xX:=@List.range_succ
def xY:=@PySem.typeIs_str
def xZ:=@PySem.tupleKind_room_in1
def x4:=@PyProof.Rows.boot_tuple
def x5:=@List.filter_filter
def Xa:=@List.getElem?_replicate
def Xb:=@PySem.wpAny_field
def Xc:=@List.filter_cons_of_pos
def Xd:=@List.mem_range
def Xe:=@Nat.ne_of_gt
def Xf:=@PySem.W.cellsFrom_some
def Xh:=@PySem.Calls.callWith_builtin
def Xi:=@Option.map_eq_some_iff
def Xj:=@Bool.not_eq_true'
def Xk:=@PySem.SeqAt.rc_eq_decline_or
def Xl:=@PySem.F.args_dict_eq_2
def Xm:=@PySem.PassesOwn.leaving
def Xn:=@List.filter_congr
def Xo:=@List.mem_iff_getElem?
def Xp:=@PySem.F.entry_dict_eq
def Xq:=@PySem.wpAny_notOrdered_dict
def Xr:=@List.filterMap_append
def Xs:=@PySem.F.slot_list_pop
def Xu:=@PySem.F.type_list_pop
def Xv:=@Nat.lt_succ_self
def Xw:=@PySem.wpAny_call_entry
def Xx:=@List.cons_append
def Xy:=@Nat.min_eq_right
def Xz:=@List.drop_length
def XA:=@PyProof.Rows.boot_list
def XB:=@List.any_cons
def XC:=@PySem.Value.ref.inj
def XD:=@Prod.mk.injEq
def XE:=@List.mem_iff_getElem
def XF:=@List.getElem?_of_mem
def XG:=@List.mem_of_mem_take
def XH:=@PySem.wpAny_execs_nil
def XI:=@List.of_mem_zip
def XJ:=@PySem.SeqAt.EqAt.same
def XM:=@Option.map_some
def XR:=@PySem.post_val_or_str
def XS:=@PySem.W.plainGet_of
def XT:=@PySem.W.looks_clsIn
def XU:=@PySem.W.callWith_K0
def XV:=@ne_true_of_eq_false
def XW:=@List.getElem_of_mem
def XY:=@Nat.le_of_eq
def XZ:=@PySem.Txt.slice_le
def kc:=@Bool.or_true
def ke:=@PySem.SeqAt.notIn_listAt
def kf:=@Bool.false_eq_true
def kg:=@Bool.not_false
def kh:=@PySem.F.args_str_split_2
def ki:=@List.getElem?_drop
def kj:=@Option.isSome_map
def km:=@PySem.Heap.get?_push_at
def kn:=@PySem.F.entry_str_split
def ko:=@List.all_cons
def kr:=@PySem.W.mg_of
def kt:=@Nat.min_le_right
def ku:=@if_false
def ky:=@PySem.wpAny_askSetting
def kz:=@PySem.wpAny_isInstance
def kA:=@PySem.F.slot_str_split
def kB:=@List.all_map
def kC:=@Bool.or_eq_true
def kD:=@PySem.sizeLine_eq
def kE:=@Prod.ext
def kF:=@List.drop_zero
def kG:=@Bool.or_false
def kH:=@not_or
def kI:=@Int.ediv_one
def kJ:=@List.map_nil
def kK:=@Nat.lt_trans
def kL:=@decide_false
def kM:=@Nat.succ.inj
def kN:=@Int.zero_add
namespace L2
open PySem PySem.Spec PyProof.Rows
def qt(s:Stmt)(j:Nat):Stmt:=match s with
 | .ClassDef _ _ _ body _ _ _ _ _ _ _=>body.getD j (.Pass ⟨0,0,0,0⟩)
 | _=>.Pass ⟨0,0,0,0⟩
def qay(s:Stmt):Arguments:=match s with
 | .FunctionDef _ a _ _ _ _ _ _ _ _=>a
 | _=>{ posonlyargs:=[],args:=[],vararg:=none,kwonlyargs:=[],kw_defaults:=[],kwarg:=none,defaults:=[] }
def jJ(s:Stmt):List Stmt:=match s with
 | .FunctionDef _ _ b _ _ _ _ _ _ _=>b
 | _=>[]
def qd(s:Stmt):Scope:=match s with
 | .FunctionDef _ _ _ _ _ _ sc _ _ _=>sc
 | _=>{ kind:=.function,names:=[],isGenerator:=false,isCoroutine:=false }
def hookT(K:Params->yf)(a:LX)(e:∀ P,a=(K P).map (·.1))(p:Addr)(o:Obj):PySem.W.Hook:=
 ⟨List (Option Obj),λs=>(p::a).map s.heap.get?,λw=>some o::(K w.params).map λq:Addr×Obj=>some q.2,λw h=>(PySem.W.kHook K a e).says w h/\h.get? p=some o,
  λw s h=>⟨(PySem.W.kHook K a e).of w s (List.cons.inj h).2,(List.cons.inj h).1⟩,λw h h' x k=>⟨(PySem.W.kHook K a e).keeps w h h' x.1 k,k _ _ x.2⟩⟩
end L2
namespace K15
open PySem L2 PyProof.Rows
def top(i:Nat):Stmt:=PySem.Challenge.pw_onceroad_k15_refused_in_plays.main.body.getD i (.Pass ⟨0,0,0,0⟩)
abbrev jp:Stmt:=qt (top 2) 0
abbrev jU:Stmt:=qt (top 3) 0
abbrev zc:Stmt:=qt (top 4) 0
abbrev jK:Stmt:=qt (top 5) 0
abbrev zd:Stmt:=qt (top 6) 0
abbrev jL:Stmt:=qt (top 7) 0
abbrev jV:Stmt:=qt (top 8) 0
abbrev jW:Stmt:=qt (top 9) 0
abbrev jX:Stmt:=qt (top 10) 0
abbrev jq:Stmt:=qt (top 11) 0
abbrev qaa:Stmt:=top 16
abbrev qa0:Stmt:=top 37
abbrev qan:Stmt:=top 38
abbrev jr:Stmt:=top 39
abbrev ze:Stmt:=top 40
abbrev qao:Stmt:=qt (top 36) 0
abbrev qa2:Stmt:=top 41
abbrev zf:Stmt:=qt (top 36) 1
abbrev jC:Stmt:=qt (top 36) 4
abbrev jD:Stmt:=qt (top 36) 6
abbrev zg:Stmt:=qt (top 36) 7
abbrev jd:Stmt:=qt (top 36) 8
abbrev jj:Stmt:=qt (top 36) 12
abbrev qap:Stmt:=qt (top 36) 2
abbrev qaq:Stmt:=qt (top 36) 11
abbrev je:Stmt:=qt (top 36) 13
abbrev qbq:Stmt:=top 43
abbrev zJ:Stmt:=top 44
abbrev qae:Stmt:=top 45
abbrev qar:Stmt:=top 46
abbrev qbr:Stmt:=top 47
abbrev j6:Stmt:=qt (top 18) 0
abbrev jt:Stmt:=qt (top 18) 2
abbrev zK:Stmt:=qt (top 18) 3
abbrev zL:Stmt:=qt (top 18) 5
abbrev jk:Stmt:=qt (top 18) 8
abbrev zM:Stmt:=qt (top 18) 9
abbrev zh:Stmt:=qt (top 23) 1
abbrev qY:Stmt:=qt (top 23) 2
abbrev qaf:Stmt:=qt (top 23) 3
abbrev jE:Stmt:=qt (top 23) 4
abbrev jF:Stmt:=qt (top 23) 5
abbrev qbQ:Stmt:=qt (top 23) 6
abbrev qbs:Stmt:=top 24
abbrev qag:Stmt:=top 48
abbrev zi:Stmt:=qt (top 18) 6
abbrev zj:Stmt:=qt (top 18) 7
abbrev zN:Stmt:=qt (top 23) 0
abbrev qas:Stmt:=top 14
abbrev zO:Stmt:=top 15
abbrev qT:Stmt:=top 29
abbrev jY:Stmt:=top 25
abbrev zl:Stmt:=top 27
abbrev zP:Stmt:=top 32
abbrev j7:Stmt:=top 51
abbrev qa6:Stmt:=top 49
abbrev qbv:Stmt:=top 50
abbrev qj:Stmt:=top 52
abbrev qa9:Stmt:=top 53
abbrev qbk:Stmt:=top 19
abbrev qbT:Stmt:=top 26
abbrev qb9:Stmt:=top 30
abbrev qc6:Stmt:=top 54
end K15
namespace Hd
open PySem PySem.W PySem.Calls PyProof.Rows
variable{p:Program}{α:Type}
def qgj(tb:String->Option Builtin)(p:Program)(w:World)(a:Nat)(b:Option Value):Nat->SharedT->Thread->Option SharedT
 | 0,_,_=>none
 | n+1,s,t=>match through t with
  | true=>some s
  | false=>match stepOk a b t with
   | false=>none
   | true=>match stepT (denote tb) p w s t with
    | some (s',t')=>qgj tb p w a b n s' t'
    | none=>none
theorem qfV{tb:String->Option Builtin}{w:World}{a:Nat}{b:Option Value}:∀{n:Nat} {s s':SharedT} {t:Thread},qgj tb p w a b n s t=some s'->topRun tb p w a b n s.abs t=some s'.abs
 | 0,_,_,_,h=>by cases h
 | n+1,s,s',t,h=>by
  unfold qgj at h;unfold topRun
  cases d:through t with
  | true=>rw[d] at h;cases h;rfl
  | false =>
   rw[d] at h
   cases e:stepOk a b t with
   | false=>rw[e] at h;cases h
   | true =>
    rw[e] at h
    cases c:stepT (denote tb) p w s t with
    | none=>rw[c] at h;cases h
    | some r=>obtain⟨f,g⟩:=r;rw[c] at h;rw[stepT_spec c];show qfV h
def qdx:List Obj->Nat->BT->BT
 | [],_,t=>t
 | o::r,n,t=>qdx r (n+1) (t.ins n o)
def qe6(P:Params)(a:OsState):SharedT:=⟨qdx (boot_heap P).objs.toList 0 .nil,(boot_heap P).objs.size,(boot_heap P).life,Array.mk [],boot_drawn,boot_toks,a⟩
theorem boot_abs(P:Params):absHeap (qdx (boot_heap P).objs.toList 0 .nil) (boot_heap P).objs.size (boot_heap P).life=boot_heap P:=by kernel_rfl
def qfn(p q:Program)(Xt:Shared->Bool){α:Type}(Yf:Shared->α)(N:Nat)(w:World)(a:OsState):=match (boot_heap w.params).isNs mainGlobals&&(Array.mk []:Array GenState).size==0 with
 | true=>(qgj treeTable p w (boot_heap w.params).objs.size ((boot_heap w.params).nsMap mainGlobals "__annotations__") N (qe6 w.params a) (topStub p)).bind λs=>match staticsOk (importedModules p.main.body) (boot_heap w.params) s.abs.heap&&namesBound p s.abs.heap&&gensDone s.abs&&laidKept (boot_heap w.params) s.abs.heap with
   | true=>some (openSeen q [] (importedModules p.main.body) Xt true s.abs,Yf s.abs)
   | false=>none
 | false=>none
noncomputable def lookS(p:Program)(N:Nat)(w:World)(a:OsState):Option Shared:=match (boot_heap w.params).isNs mainGlobals&&(Array.mk []:Array GenState).size==0 with
 | true=>(qgj treeTable p w (boot_heap w.params).objs.size ((boot_heap w.params).nsMap mainGlobals "__annotations__") N (qe6 w.params a) (topStub p)).bind λs=>match staticsOk (importedModules p.main.body) (boot_heap w.params) s.abs.heap&&namesBound p s.abs.heap&&gensDone s.abs&&laidKept (boot_heap w.params) s.abs.heap with
   | true=>some s.abs
   | false=>none
 | false=>none
theorem lookT_map(p q:Program)(Xt:Shared->Bool)(Yf:Shared->α)(N:Nat)(w:World)(a:OsState):qfn p q Xt Yf N w a=(lookS p N w a).map λs=>(openSeen q [] (importedModules p.main.body) Xt true s,Yf s):=by
 unfold qfn lookS
 cases (boot_heap w.params).isNs mainGlobals&&(Array.mk []:Array GenState).size==0 with
 | false=>rfl
 | true =>
  dsimp only
  cases qgj treeTable p w (boot_heap w.params).objs.size ((boot_heap w.params).nsMap mainGlobals "__annotations__") N (qe6 w.params a) (topStub p) with
  | none=>rfl
  | some s =>
   show(match _ with | true=>_ | false=>_)=Option.map _ (match _ with | true=>_ | false=>_);cases staticsOk (importedModules p.main.body) (boot_heap w.params) s.abs.heap&&namesBound p s.abs.heap&&gensDone s.abs&&laidKept (boot_heap w.params) s.abs.heap<;>rfl
theorem packs{b A B C D E Y:Type}{o:Option b}{f:b->A×B×C×D×E}{g:b->Y}{x:A×B×C×D×E}{y:Y}(h1:o.map (λs=>((f s).1,(f s).2.1,(f s).2.2.1,(f s).2.2.2.1))=some (x.1,x.2.1,x.2.2.1,x.2.2.2.1))(h:o.map (λs=>(f s).2.2.2.2)=some x.2.2.2.2)(c:o.map g=some y):o.map (λs=>(f s,g s))=some (x,y):=by
 cases o with
 | none=>cases c
 | some s =>
  have a:=yl h1;have d:=yl h;have e:=yl c;have i:=congrArg Prod.fst a;have j:=congrArg (λz=>z.2.1) a;have l:=congrArg (λz=>z.2.2.1) a;have m:=congrArg (λz=>z.2.2.2) a;show congrArg some (kE (kE i (kE j (kE l (kE m d)))) e)
theorem left_of{q:Program}{Xt:Shared->Bool}{Yf:Shared->α}{Ya:World->α}{N:Nat}(e:opening p=plainProg p.main.scope.names)(n:Nat.ble 600 N=true)(f:∀ s,fenceModules? p s=some s)
  (h:∀ w a,qfn p q Xt Yf N w a=some (openGood q [],Ya w)):LeftO p q [] Xt Yf Ya N:=λw=>by
 obtain⟨⟨m,l,d,k,a⟩,i,j⟩:=Xi.mp (boot_open e n f w);obtain⟨rfl,rfl,rfl,rfl⟩:m=boot_heap w.params/\l=Array.mk []/\d=boot_drawn/\k=boot_toks:=by simpa using j
 have b:=h w a;unfold qfn at b;unfold openEnds;rw[i];show(topFrom treeTable p w N _).map _=_;unfold topFrom;dsimp only;split at b
 .rename_i z
  rw[z];obtain⟨s,o,c⟩:=Option.bind_eq_some_iff.mp b;have r:=qfV o
  have g:(qe6 w.params a).abs=⟨boot_heap w.params,Array.mk [],boot_drawn,boot_toks,a⟩:=by
   unfold qe6 SharedT.abs;dsimp only;rw[boot_abs]
  rw[g] at r;dsimp only;rw[r];split at c
  .rename_i z2
   show((match staticsOk (importedModules p.main.body) (boot_heap w.params) s.abs.heap&&namesBound p s.abs.heap&&gensDone s.abs&&laidKept (boot_heap w.params) s.abs.heap with | true=>some s.abs | false=>none):Option Shared).map _=_;rw[z2];show c
  .cases c
 .cases b
end Hd
namespace K15
open PySem L2 PyProof.Rows PySem.W
abbrev NN:Nat:=20000
def Q:Program:=view PySem.Challenge.pw_onceroad_k15_refused_in_plays [0,2,3,4,5,6,7,8,9,10,11,13,14,15,16,18,19,21,22,23,24,25,26,27,29,30,32,34,35,36,37,38,39,40,41,43,44,45,46,47,48,49,50,51,52,53,54]
noncomputable def en(P:Params)(t:Tok)(v:Value)(k:Str):DictEntry:=⟨PyData.keyHash P k,.str k t,v⟩
noncomputable def cO(t a b r:Nat)(x y z v:Value)(e u:Nat)(q n:Str):Obj:=⟨.type "code",none,.fields #[.str n t,.str q (t+1),.str "/claim/cut.py" (t+2),.int a 0,.int b 0,.int 0 0,.int 0 0,.int 3 0,.ref r,.bool true,.int 181 0,x,y,z,v,.ref e,.int u 0,.int a 0,.str "/claim/cut.py" (u+1)],#[]⟩
noncomputable def cE(t b a r:Nat)(x y z v:Value)(e u:Nat)(n:Str):Obj:=cO t b a r x y z v e u n n
noncomputable def fO(k c:Nat)(s:Stmt)(m q n:Str):Obj:=⟨.type "function",none,.func (fnOf n q (qay s) (jJ s) (qd s) .none .none .none (.str m k) none (.ref c) .none),#[]⟩
noncomputable def fE(k c:Nat)(s:Stmt)(m n:Str):Obj:=fO k c s m n n
noncomputable def Kf(P:Params):Frag:=
 (nat_lit 2,(⟨.none,none,.dict #[] 0,#[]⟩:Obj)) ::
 (nat_lit 3,(⟨(.type "dict"),none,.dict #[en P 165 (.str "law_onceroad_k15_refused_in_plays" 923) "__name__",en P 166 .none "__doc__",en P 167 .none "__package__",en P 168 (.builtin "__main__.__loader__#opaque") "__loader__",en P 169 .none "__spec__",en P 170 (.ref 6) "__annotations__",en P 171 (.ref 4) "__builtins__",en P 173 (.str "/claim/cut.py" 172) "__file__",en P 174 .none "__cached__",en P 193 (.ref 21) "_wall",en P 221 (.ref 38) "OnceError",en P 246 (.ref 58) "NoName",en P 271 (.ref 77) "Twice",en P 296 (.ref 96) "NoPlace",en P 321 (.ref 115) "NoTie",en P 346 (.ref 134) "TooMany",en P 371 (.ref 153) "NoText",en P 396 (.ref 172) "NoMove",en P 419 (.ref 191) "NoBack",en P 444 (.ref 210) "NoNumbers",en P 448 (.int 6 447) "LONGEST_NAME",en P 455 (.ref 219) "is_whole",en P 464 (.ref 226) "is_within",en P 470 (.ref 231) "is_name",en P 567 (.ref 311) "Walk",en P 577 (.ref 322) "count_from",en P 581 (.int 3 580) "MOST_FOR_ROWS",en P 583 (.int 5 582) "MOST_FOR_THEIR_NUMBER",en P 648 (.ref 379) "Play",en P 658 (.ref 388) "played",en P 666 (.ref 395) "rows_within",en P 672 (.ref 400) "rows_from",en P 680 (.ref 407) "all_within",en P 691 (.ref 414) "words_from_start",en P 701 (.ref 421) "go_along",en P 713 (.ref 428) "read_play",en P 717 (.int 14 716) "MOST_PLACES",en P 719 (.int 30 718) "MOST_TIES",en P 876 (.ref 553) "Web",en P 884 (.ref 564) "has_bit",en P 892 (.ref 571) "is_place",en P 901 (.ref 578) "are_two_places",en P 910 (.ref 585) "numbers_of",en P 922 (.ref 592) "near_of",en P 932 (.ref 599) "_law_cell",en P 945 (.ref 606) "_law_numbers",en P 951 (.ref 611) "_law_names",en P 957 (.ref 616) "_law_ties",en P 966 (.ref 623) "_law_tied",en P 972 (.ref 628) "_law_moves",en P 981 (.ref 635) "_law_kinds",en P 989 (.ref 642) "_law_held",en P 998 (.ref 649) "_law_thing",en P 1019 (.ref 656) "_law_door",en P 1026 (.ref 663) "_law_state",en P 1032 (.ref 668) "law"] 56,#[]⟩:Obj)) ::
 (nat_lit 4,(⟨(.type "module"),(some 0),.plain,#[]⟩:Obj)) ::
 (nat_lit 34,cO 208 7 2 29 (.ref 30) .none (.ref 31) (.ref 32) 33 213 "OnceError.__init__" "__init__") ::
 (nat_lit 35,fO 194 34 jp "onceroad.errors" "OnceError.__init__" "__init__") ::
 (nat_lit 37,(⟨(.type "dict"),none,.dict #[en P 203 (.str "onceroad.errors" 194) "__module__",en P 207 (.int 5 206) "__firstlineno__",en P 215 (.ref 35) "__init__",en P 216 (.ref 36) "__static_attributes__",en P 218 (.ref 39) "__weakref__",en P 219 .none "__doc__"] 3,#[]⟩:Obj)) ::
 (nat_lit 38,(⟨(.type "type"),none,.cls { name:="OnceError",bases:=[(.type "ValueError")],mro:=[(.ref 38),(.type "ValueError"),(.type "Exception"),(.type "BaseException"),(.type "object")],ns:=37,qualname:="OnceError",hasDict:=true,slotNames:=[],subclasses:=[(.ref 58),(.ref 77),(.ref 96),(.ref 115),(.ref 134),(.ref 153),(.ref 172),(.ref 191),(.ref 210)],abstract:=false,collection:=none,hasDel:=false },#[(some (.ref 22)),none,(some (.str "OnceError" 196)),(some (.str "OnceError" 204)),(some (.builtin "ValueError.__new__")),(some (.bool true))]⟩:Obj)) ::
 (nat_lit 54,cO 234 11 2 49 (.ref 50) .none (.ref 51) (.ref 52) 53 239 "NoName.__init__" "__init__") ::
 (nat_lit 55,fO 194 54 jU "onceroad.errors" "NoName.__init__" "__init__") ::
 (nat_lit 57,(⟨(.type "dict"),none,.dict #[en P 229 (.str "onceroad.errors" 194) "__module__",en P 233 (.int 9 232) "__firstlineno__",en P 241 (.ref 55) "__init__",en P 243 (.ref 56) "__static_attributes__",en P 244 .none "__doc__"] 2,#[]⟩:Obj)) ::
 (nat_lit 58,(⟨(.type "type"),none,.cls { name:="NoName",bases:=[(.ref 38)],mro:=[(.ref 58),(.ref 38),(.type "ValueError"),(.type "Exception"),(.type "BaseException"),(.type "object")],ns:=57,qualname:="NoName",hasDict:=true,slotNames:=[],subclasses:=[],abstract:=false,collection:=none,hasDel:=false },#[(some (.ref 42)),none,(some (.str "NoName" 222)),(some (.str "NoName" 230)),(some (.builtin "ValueError.__new__")),(some (.bool true))]⟩:Obj)) ::
 (nat_lit 73,cO 259 16 2 68 (.ref 69) .none (.ref 70) (.ref 71) 72 264 "Twice.__init__" "__init__") ::
 (nat_lit 74,fO 194 73 zc "onceroad.errors" "Twice.__init__" "__init__") ::
 (nat_lit 76,(⟨(.type "dict"),none,.dict #[en P 254 (.str "onceroad.errors" 194) "__module__",en P 258 (.int 14 257) "__firstlineno__",en P 266 (.ref 74) "__init__",en P 268 (.ref 75) "__static_attributes__",en P 269 .none "__doc__"] 2,#[]⟩:Obj)) ::
 (nat_lit 77,(⟨(.type "type"),none,.cls { name:="Twice",bases:=[(.ref 38)],mro:=[(.ref 77),(.ref 38),(.type "ValueError"),(.type "Exception"),(.type "BaseException"),(.type "object")],ns:=76,qualname:="Twice",hasDict:=true,slotNames:=[],subclasses:=[],abstract:=false,collection:=none,hasDel:=false },#[(some (.ref 61)),none,(some (.str "Twice" 247)),(some (.str "Twice" 255)),(some (.builtin "ValueError.__new__")),(some (.bool true))]⟩:Obj)) ::
 (nat_lit 92,cO 284 21 2 87 (.ref 88) .none (.ref 89) (.ref 90) 91 289 "NoPlace.__init__" "__init__") ::
 (nat_lit 93,fO 194 92 jK "onceroad.errors" "NoPlace.__init__" "__init__") ::
 (nat_lit 95,(⟨(.type "dict"),none,.dict #[en P 279 (.str "onceroad.errors" 194) "__module__",en P 283 (.int 19 282) "__firstlineno__",en P 291 (.ref 93) "__init__",en P 293 (.ref 94) "__static_attributes__",en P 294 .none "__doc__"] 2,#[]⟩:Obj)) ::
 (nat_lit 96,(⟨(.type "type"),none,.cls { name:="NoPlace",bases:=[(.ref 38)],mro:=[(.ref 96),(.ref 38),(.type "ValueError"),(.type "Exception"),(.type "BaseException"),(.type "object")],ns:=95,qualname:="NoPlace",hasDict:=true,slotNames:=[],subclasses:=[],abstract:=false,collection:=none,hasDel:=false },#[(some (.ref 80)),none,(some (.str "NoPlace" 272)),(some (.str "NoPlace" 280)),(some (.builtin "ValueError.__new__")),(some (.bool true))]⟩:Obj)) ::
 (nat_lit 111,cO 309 26 2 106 (.ref 107) .none (.ref 108) (.ref 109) 110 314 "NoTie.__init__" "__init__") ::
 (nat_lit 112,fO 194 111 zd "onceroad.errors" "NoTie.__init__" "__init__") ::
 (nat_lit 114,(⟨(.type "dict"),none,.dict #[en P 304 (.str "onceroad.errors" 194) "__module__",en P 308 (.int 24 307) "__firstlineno__",en P 316 (.ref 112) "__init__",en P 318 (.ref 113) "__static_attributes__",en P 319 .none "__doc__"] 2,#[]⟩:Obj)) ::
 (nat_lit 115,(⟨(.type "type"),none,.cls { name:="NoTie",bases:=[(.ref 38)],mro:=[(.ref 115),(.ref 38),(.type "ValueError"),(.type "Exception"),(.type "BaseException"),(.type "object")],ns:=114,qualname:="NoTie",hasDict:=true,slotNames:=[],subclasses:=[],abstract:=false,collection:=none,hasDel:=false },#[(some (.ref 99)),none,(some (.str "NoTie" 297)),(some (.str "NoTie" 305)),(some (.builtin "ValueError.__new__")),(some (.bool true))]⟩:Obj)) ::
 (nat_lit 130,cO 334 31 2 125 (.ref 126) .none (.ref 127) (.ref 128) 129 339 "TooMany.__init__" "__init__") ::
 (nat_lit 131,fO 194 130 jL "onceroad.errors" "TooMany.__init__" "__init__") ::
 (nat_lit 133,(⟨(.type "dict"),none,.dict #[en P 329 (.str "onceroad.errors" 194) "__module__",en P 333 (.int 29 332) "__firstlineno__",en P 341 (.ref 131) "__init__",en P 343 (.ref 132) "__static_attributes__",en P 344 .none "__doc__"] 2,#[]⟩:Obj)) ::
 (nat_lit 134,(⟨(.type "type"),none,.cls { name:="TooMany",bases:=[(.ref 38)],mro:=[(.ref 134),(.ref 38),(.type "ValueError"),(.type "Exception"),(.type "BaseException"),(.type "object")],ns:=133,qualname:="TooMany",hasDict:=true,slotNames:=[],subclasses:=[],abstract:=false,collection:=none,hasDel:=false },#[(some (.ref 118)),none,(some (.str "TooMany" 322)),(some (.str "TooMany" 330)),(some (.builtin "ValueError.__new__")),(some (.bool true))]⟩:Obj)) ::
 (nat_lit 149,cO 359 36 2 144 (.ref 145) .none (.ref 146) (.ref 147) 148 364 "NoText.__init__" "__init__") ::
 (nat_lit 150,fO 194 149 jV "onceroad.errors" "NoText.__init__" "__init__") ::
 (nat_lit 152,(⟨(.type "dict"),none,.dict #[en P 354 (.str "onceroad.errors" 194) "__module__",en P 358 (.int 34 357) "__firstlineno__",en P 366 (.ref 150) "__init__",en P 368 (.ref 151) "__static_attributes__",en P 369 .none "__doc__"] 2,#[]⟩:Obj)) ::
 (nat_lit 153,(⟨(.type "type"),none,.cls { name:="NoText",bases:=[(.ref 38)],mro:=[(.ref 153),(.ref 38),(.type "ValueError"),(.type "Exception"),(.type "BaseException"),(.type "object")],ns:=152,qualname:="NoText",hasDict:=true,slotNames:=[],subclasses:=[],abstract:=false,collection:=none,hasDel:=false },#[(some (.ref 137)),none,(some (.str "NoText" 347)),(some (.str "NoText" 355)),(some (.builtin "ValueError.__new__")),(some (.bool true))]⟩:Obj)) ::
 (nat_lit 168,cO 384 41 2 163 (.ref 164) .none (.ref 165) (.ref 166) 167 389 "NoMove.__init__" "__init__") ::
 (nat_lit 169,fO 194 168 jW "onceroad.errors" "NoMove.__init__" "__init__") ::
 (nat_lit 171,(⟨(.type "dict"),none,.dict #[en P 379 (.str "onceroad.errors" 194) "__module__",en P 383 (.int 39 382) "__firstlineno__",en P 391 (.ref 169) "__init__",en P 393 (.ref 170) "__static_attributes__",en P 394 .none "__doc__"] 2,#[]⟩:Obj)) ::
 (nat_lit 172,(⟨(.type "type"),none,.cls { name:="NoMove",bases:=[(.ref 38)],mro:=[(.ref 172),(.ref 38),(.type "ValueError"),(.type "Exception"),(.type "BaseException"),(.type "object")],ns:=171,qualname:="NoMove",hasDict:=true,slotNames:=[],subclasses:=[],abstract:=false,collection:=none,hasDel:=false },#[(some (.ref 156)),none,(some (.str "NoMove" 372)),(some (.str "NoMove" 380)),(some (.builtin "ValueError.__new__")),(some (.bool true))]⟩:Obj)) ::
 (nat_lit 187,cO 409 46 1 182 (.ref 183) .none (.ref 184) (.ref 185) 186 413 "NoBack.__init__" "__init__") ::
 (nat_lit 188,fO 194 187 jX "onceroad.errors" "NoBack.__init__" "__init__") ::
 (nat_lit 190,(⟨(.type "dict"),none,.dict #[en P 404 (.str "onceroad.errors" 194) "__module__",en P 408 (.int 44 407) "__firstlineno__",en P 415 (.ref 188) "__init__",en P 416 (.ref 189) "__static_attributes__",en P 417 .none "__doc__"] 2,#[]⟩:Obj)) ::
 (nat_lit 191,(⟨(.type "type"),none,.cls { name:="NoBack",bases:=[(.ref 38)],mro:=[(.ref 191),(.ref 38),(.type "ValueError"),(.type "Exception"),(.type "BaseException"),(.type "object")],ns:=190,qualname:="NoBack",hasDict:=true,slotNames:=[],subclasses:=[],abstract:=false,collection:=none,hasDel:=false },#[(some (.ref 175)),none,(some (.str "NoBack" 397)),(some (.str "NoBack" 405)),(some (.builtin "ValueError.__new__")),(some (.bool true))]⟩:Obj)) ::
 (nat_lit 206,cO 432 50 2 201 (.ref 202) .none (.ref 203) (.ref 204) 205 437 "NoNumbers.__init__" "__init__") ::
 (nat_lit 207,fO 194 206 jq "onceroad.errors" "NoNumbers.__init__" "__init__") ::
 (nat_lit 209,(⟨(.type "dict"),none,.dict #[en P 427 (.str "onceroad.errors" 194) "__module__",en P 431 (.int 48 430) "__firstlineno__",en P 439 (.ref 207) "__init__",en P 441 (.ref 208) "__static_attributes__",en P 442 .none "__doc__"] 2,#[]⟩:Obj)) ::
 (nat_lit 210,(⟨(.type "type"),none,.cls { name:="NoNumbers",bases:=[(.ref 38)],mro:=[(.ref 210),(.ref 38),(.type "ValueError"),(.type "Exception"),(.type "BaseException"),(.type "object")],ns:=209,qualname:="NoNumbers",hasDict:=true,slotNames:=[],subclasses:=[],abstract:=false,collection:=none,hasDel:=false },#[(some (.ref 194)),none,(some (.str "NoNumbers" 420)),(some (.str "NoNumbers" 428)),(some (.builtin "ValueError.__new__")),(some (.bool true))]⟩:Obj)) ::
 (nat_lit 218,cE 449 55 1 213 (.ref 214) .none (.ref 215) (.ref 216) 217 453 "is_whole") ::
 (nat_lit 219,fE 445 218 qas "onceroad.names" "is_whole") ::
 (nat_lit 225,cE 456 57 3 220 (.ref 221) .none (.ref 222) (.ref 223) 224 462 "is_within") ::
 (nat_lit 226,fE 445 225 zO "onceroad.names" "is_within") ::
 (nat_lit 230,cE 465 59 1 227 (.ref 228) .none .none .none 229 468 "is_name") ::
 (nat_lit 231,fE 445 230 qaa "onceroad.names" "is_name") ::
 (nat_lit 244,cO 485 66 3 239 (.ref 240) .none (.ref 241) (.ref 242) 243 491 "Walk.__init__" "__init__") ::
 (nat_lit 245,fO 471 244 j6 "onceroad.walks" "Walk.__init__" "__init__") ::
 (nat_lit 258,cO 501 75 1 253 (.ref 254) .none (.ref 255) (.ref 256) 257 505 "Walk.stands_at" "stands_at") ::
 (nat_lit 259,fO 471 258 jt "onceroad.walks" "Walk.stands_at" "stands_at") ::
 (nat_lit 265,cO 508 78 1 260 (.ref 261) .none (.ref 262) (.ref 263) 264 512 "Walk.gone" "gone") ::
 (nat_lit 266,fO 471 265 zK "onceroad.walks" "Walk.gone" "gone") ::
 (nat_lit 279,cO 522 84 1 274 (.ref 275) .none (.ref 276) (.ref 277) 278 526 "Walk.hand" "hand") ::
 (nat_lit 280,fO 471 279 zL "onceroad.walks" "Walk.hand" "hand") ::
 (nat_lit 286,cO 529 87 1 281 (.ref 282) .none (.ref 283) (.ref 284) 285 533 "Walk.ended" "ended") ::
 (nat_lit 287,fO 471 286 zi "onceroad.walks" "Walk.ended" "ended") ::
 (nat_lit 293,cO 536 90 1 288 (.ref 289) .none (.ref 290) (.ref 291) 292 540 "Walk.loser" "loser") ::
 (nat_lit 294,fO 471 293 zj "onceroad.walks" "Walk.loser" "loser") ::
 (nat_lit 300,cO 543 93 2 295 (.ref 296) .none (.ref 297) (.ref 298) 299 548 "Walk.move_to" "move_to") ::
 (nat_lit 301,fO 471 300 jk "onceroad.walks" "Walk.move_to" "move_to") ::
 (nat_lit 307,cO 551 98 1 302 (.ref 303) .none (.ref 304) (.ref 305) 306 555 "Walk.back" "back") ::
 (nat_lit 308,fO 471 307 zM "onceroad.walks" "Walk.back" "back") ::
 (nat_lit 310,(⟨(.type "dict"),none,.dict #[en P 480 (.str "onceroad.walks" 471) "__module__",en P 484 (.int 64 483) "__firstlineno__",en P 493 (.ref 245) "__init__",en P 500 (.ref 252) "web",en P 507 (.ref 259) "stands_at",en P 514 (.ref 266) "gone",en P 521 (.ref 273) "moves",en P 528 (.ref 280) "hand",en P 535 (.ref 287) "ended",en P 542 (.ref 294) "loser",en P 550 (.ref 301) "move_to",en P 557 (.ref 308) "back",en P 560 (.ref 309) "__static_attributes__",en P 562 (.ref 312) "__dict__",en P 564 (.ref 313) "__weakref__",en P 565 .none "__doc__"] 4,#[]⟩:Obj)) ::
 (nat_lit 311,(⟨(.type "type"),none,.cls { name:="Walk",bases:=[(.type "object")],mro:=[(.ref 311),(.type "object")],ns:=310,qualname:="Walk",hasDict:=true,slotNames:=[],subclasses:=[(.ref 379)],abstract:=false,collection:=none,hasDel:=false },#[none,none,(some (.str "Walk" 473)),(some (.str "Walk" 481)),(some (.builtin "object.__new__")),(some (.bool true))]⟩:Obj)) ::
 (nat_lit 321,cE 568 102 2 316 (.ref 317) .none (.ref 318) (.ref 319) 320 575 "count_from") ::
 (nat_lit 322,fE 471 321 qbk "onceroad.walks" "count_from") ::
 (nat_lit 335,cO 596 115 1 330 (.ref 331) .none (.ref 332) (.ref 333) 334 600 "Play.left" "left") ::
 (nat_lit 336,fO 578 335 zN "onceroad.plays" "Play.left" "left") ::
 (nat_lit 342,cO 603 118 1 337 (.ref 338) .none (.ref 339) (.ref 340) 341 607 "Play.moves" "moves") ::
 (nat_lit 343,fO 578 342 zh "onceroad.plays" "Play.moves" "moves") ::
 (nat_lit 347,cO 610 121 2 344 (.ref 345) .none .none .none 346 613 "Play.not_gone" "not_gone") ::
 (nat_lit 348,fO 578 347 qY "onceroad.plays" "Play.not_gone" "not_gone") ::
 (nat_lit 354,cO 616 124 2 349 (.ref 350) .none (.ref 351) (.ref 352) 353 621 "Play.go" "go") ::
 (nat_lit 355,fO 578 354 qaf "onceroad.plays" "Play.go" "go") ::
 (nat_lit 361,cO 624 127 1 356 (.ref 357) .none (.ref 358) (.ref 359) 360 628 "Play.web_left" "web_left") ::
 (nat_lit 362,fO 578 361 jE "onceroad.plays" "Play.web_left" "web_left") ::
 (nat_lit 368,cO 631 130 1 363 (.ref 364) .none (.ref 365) (.ref 366) 367 635 "Play.position" "position") ::
 (nat_lit 369,fO 578 368 jF "onceroad.plays" "Play.position" "position") ::
 (nat_lit 375,cO 638 133 1 370 (.ref 371) .none (.ref 372) (.ref 373) 374 642 "Play.twin" "twin") ::
 (nat_lit 376,fO 578 375 qbQ "onceroad.plays" "Play.twin" "twin") ::
 (nat_lit 378,(⟨(.type "dict"),none,.dict #[en P 591 (.str "onceroad.plays" 578) "__module__",en P 595 (.int 113 594) "__firstlineno__",en P 602 (.ref 336) "left",en P 609 (.ref 343) "moves",en P 615 (.ref 348) "not_gone",en P 623 (.ref 355) "go",en P 630 (.ref 362) "web_left",en P 637 (.ref 369) "position",en P 644 (.ref 376) "twin",en P 645 (.ref 377) "__static_attributes__",en P 646 .none "__doc__"] 2,#[]⟩:Obj)) ::
 (nat_lit 379,(⟨(.type "type"),none,.cls { name:="Play",bases:=[(.ref 311)],mro:=[(.ref 379),(.ref 311),(.type "object")],ns:=378,qualname:="Play",hasDict:=true,slotNames:=[],subclasses:=[],abstract:=false,collection:=none,hasDel:=false },#[(some (.ref 323)),none,(some (.str "Play" 584)),(some (.str "Play" 592)),(some (.builtin "object.__new__")),(some (.bool true))]⟩:Obj)) ::
 (nat_lit 387,cE 649 135 2 382 (.ref 383) .none (.ref 384) (.ref 385) 386 656 "played") ::
 (nat_lit 388,fE 578 387 qbs "onceroad.plays" "played") ::
 (nat_lit 394,cE 659 142 2 389 (.ref 390) .none (.ref 391) (.ref 392) 393 664 "rows_within") ::
 (nat_lit 395,fE 578 394 jY "onceroad.plays" "rows_within") ::
 (nat_lit 399,cE 667 146 2 396 (.ref 397) .none .none .none 398 670 "rows_from") ::
 (nat_lit 400,fE 578 399 qbT "onceroad.plays" "rows_from") ::
 (nat_lit 406,cE 673 154 2 401 (.ref 402) .none (.ref 403) (.ref 404) 405 678 "all_within") ::
 (nat_lit 407,fE 578 406 zl "onceroad.plays" "all_within") ::
 (nat_lit 413,cE 683 159 2 408 (.ref 409) .none (.ref 410) (.ref 411) 412 689 "words_from_start") ::
 (nat_lit 414,fE 681 413 qT "onceroad.walktext" "words_from_start") ::
 (nat_lit 420,cE 692 166 2 415 (.ref 416) .none (.ref 417) (.ref 418) 419 699 "go_along") ::
 (nat_lit 421,fE 681 420 qb9 "onceroad.walktext" "go_along") ::
 (nat_lit 427,cE 704 172 2 422 (.ref 423) .none (.ref 424) (.ref 425) 426 711 "read_play") ::
 (nat_lit 428,fE 702 427 zP "onceroad.playtext" "read_play") ::
 (nat_lit 441,cO 732 182 3 436 (.ref 437) .none (.ref 438) (.ref 439) 440 738 "Web.__init__" "__init__") ::
 (nat_lit 442,fO 714 441 qao "onceroad.webs" "Web.__init__" "__init__") ::
 (nat_lit 448,cO 741 187 1 443 (.ref 444) .none (.ref 445) (.ref 446) 447 745 "Web.places" "places") ::
 (nat_lit 449,fO 714 448 zf "onceroad.webs" "Web.places" "places") ::
 (nat_lit 455,cO 748 190 1 450 (.ref 451) .none (.ref 452) (.ref 453) 454 755 "Web.ties" "ties") ::
 (nat_lit 456,fO 714 455 qap "onceroad.webs" "Web.ties" "ties") ::
 (nat_lit 469,cO 765 201 2 464 (.ref 465) .none (.ref 466) (.ref 467) 468 770 "Web.has_place" "has_place") ::
 (nat_lit 470,fO 714 469 jC "onceroad.webs" "Web.has_place" "has_place") ::
 (nat_lit 483,cO 781 207 2 478 (.ref 479) .none (.ref 480) (.ref 481) 482 786 "Web.number_of" "number_of") ::
 (nat_lit 484,fO 714 483 jD "onceroad.webs" "Web.number_of" "number_of") ::
 (nat_lit 490,cO 789 212 2 485 (.ref 486) .none (.ref 487) (.ref 488) 489 794 "Web.beside" "beside") ::
 (nat_lit 491,fO 714 490 zg "onceroad.webs" "Web.beside" "beside") ::
 (nat_lit 497,cO 797 215 2 492 (.ref 493) .none (.ref 494) (.ref 495) 496 802 "Web.bits_beside" "bits_beside") ::
 (nat_lit 498,fO 714 497 jd "onceroad.webs" "Web.bits_beside" "bits_beside") ::
 (nat_lit 518,cO 821 224 1 513 (.ref 514) .none (.ref 515) (.ref 516) 517 825 "Web.told" "told") ::
 (nat_lit 519,fO 714 518 qaq "onceroad.webs" "Web.told" "told") ::
 (nat_lit 523,cO 828 227 2 520 (.ref 521) .none .none .none 522 831 "Web.names_in" "names_in") ::
 (nat_lit 524,fO 714 523 jj "onceroad.webs" "Web.names_in" "names_in") ::
 (nat_lit 528,cO 834 230 2 525 (.ref 526) .none .none .none 527 837 "Web.without" "without") ::
 (nat_lit 529,fO 714 528 je "onceroad.webs" "Web.without" "without") ::
 (nat_lit 552,(⟨(.type "dict"),none,.dict #[en P 727 (.str "onceroad.webs" 714) "__module__",en P 731 (.int 180 730) "__firstlineno__",en P 740 (.ref 442) "__init__",en P 747 (.ref 449) "places",en P 757 (.ref 456) "ties",en P 764 (.ref 463) "how_many",en P 772 (.ref 470) "has_place",en P 780 (.ref 477) "has_tie",en P 788 (.ref 484) "number_of",en P 796 (.ref 491) "beside",en P 804 (.ref 498) "bits_beside",en P 813 (.ref 505) "tied",en P 820 (.ref 512) "pieces",en P 827 (.ref 519) "told",en P 833 (.ref 524) "names_in",en P 839 (.ref 529) "without",en P 847 (.ref 536) "with_place",en P 856 (.ref 543) "with_tie",en P 865 (.ref 550) "without_tie",en P 869 (.ref 551) "__static_attributes__",en P 871 (.ref 554) "__dict__",en P 873 (.ref 555) "__weakref__",en P 874 .none "__doc__"] 4,#[]⟩:Obj)) ::
 (nat_lit 553,(⟨(.type "type"),none,.cls { name:="Web",bases:=[(.type "object")],mro:=[(.ref 553),(.type "object")],ns:=552,qualname:="Web",hasDict:=true,slotNames:=[],subclasses:=[],abstract:=false,collection:=none,hasDel:=false },#[none,none,(some (.str "Web" 720)),(some (.str "Web" 728)),(some (.builtin "object.__new__")),(some (.bool true))]⟩:Obj)) ::
 (nat_lit 563,cE 877 248 2 558 (.ref 559) .none (.ref 560) (.ref 561) 562 882 "has_bit") ::
 (nat_lit 564,fE 714 563 qa0 "onceroad.webs" "has_bit") ::
 (nat_lit 570,cE 885 250 2 565 (.ref 566) .none (.ref 567) (.ref 568) 569 890 "is_place") ::
 (nat_lit 571,fE 714 570 qan "onceroad.webs" "is_place") ::
 (nat_lit 577,cE 893 252 2 572 (.ref 573) .none (.ref 574) (.ref 575) 576 899 "are_two_places") ::
 (nat_lit 578,fE 714 577 jr "onceroad.webs" "are_two_places") ::
 (nat_lit 584,cE 902 257 1 579 (.ref 580) .none (.ref 581) (.ref 582) 583 908 "numbers_of") ::
 (nat_lit 585,fE 714 584 ze "onceroad.webs" "numbers_of") ::
 (nat_lit 591,cE 911 270 2 586 (.ref 587) .none (.ref 588) (.ref 589) 590 920 "near_of") ::
 (nat_lit 592,fE 714 591 qa2 "onceroad.webs" "near_of") ::
 (nat_lit 598,cE 925 287 2 593 (.ref 594) .none (.ref 595) (.ref 596) 597 930 "_law_cell") ::
 (nat_lit 599,fE 923 598 qbq "law_onceroad_k15_refused_in_plays" "_law_cell") ::
 (nat_lit 605,cE 933 291 3 600 (.ref 601) .none (.ref 602) (.ref 603) 604 943 "_law_numbers") ::
 (nat_lit 606,fE 923 605 zJ "law_onceroad_k15_refused_in_plays" "_law_numbers") ::
 (nat_lit 610,cE 946 303 1 607 (.ref 608) .none .none .none 609 949 "_law_names") ::
 (nat_lit 611,fE 923 610 qae "law_onceroad_k15_refused_in_plays" "_law_names") ::
 (nat_lit 615,cE 952 311 2 612 (.ref 613) .none .none .none 614 955 "_law_ties") ::
 (nat_lit 616,fE 923 615 qar "law_onceroad_k15_refused_in_plays" "_law_ties") ::
 (nat_lit 622,cE 958 323 3 617 (.ref 618) .none (.ref 619) (.ref 620) 621 964 "_law_tied") ::
 (nat_lit 623,fE 923 622 qbr "law_onceroad_k15_refused_in_plays" "_law_tied") ::
 (nat_lit 627,cE 967 325 3 624 (.ref 625) .none .none .none 626 970 "_law_moves") ::
 (nat_lit 628,fE 923 627 qag "law_onceroad_k15_refused_in_plays" "_law_moves") ::
 (nat_lit 634,cE 973 327 1 629 (.ref 630) .none (.ref 631) (.ref 632) 633 979 "_law_kinds") ::
 (nat_lit 635,fE 923 634 qa6 "law_onceroad_k15_refused_in_plays" "_law_kinds") ::
 (nat_lit 641,cE 982 335 1 636 (.ref 637) .none (.ref 638) (.ref 639) 640 987 "_law_held") ::
 (nat_lit 642,fE 923 641 qbv "law_onceroad_k15_refused_in_plays" "_law_held") ::
 (nat_lit 648,cE 990 349 2 643 (.ref 644) .none (.ref 645) (.ref 646) 647 996 "_law_thing") ::
 (nat_lit 649,fE 923 648 j7 "law_onceroad_k15_refused_in_plays" "_law_thing") ::
 (nat_lit 655,cE 999 352 6 650 (.ref 651) .none (.ref 652) (.ref 653) 654 1017 "_law_door") ::
 (nat_lit 656,fE 923 655 qj "law_onceroad_k15_refused_in_plays" "_law_door") ::
 (nat_lit 662,cE 1020 378 1 657 (.ref 658) .none (.ref 659) (.ref 660) 661 1024 "_law_state") ::
 (nat_lit 663,fE 923 662 qa9 "law_onceroad_k15_refused_in_plays" "_law_state") ::
 (nat_lit 667,cE 1027 380 1 664 (.ref 665) .none .none .none 666 1030 "law") ::
 (nat_lit 668,fE 923 667 qc6 "law_onceroad_k15_refused_in_plays" "law") ::
 []
noncomputable def ks:LX:=[2,3,4,34,35,37,38,54,55,57,58,73,74,76,77,92,93,95,96,111,112,114,115,130,131,133,134,149,150,152,153,168,169,171,172,187,188,190,191,206,207,209,210,218,219,225,226,230,231,244,245,258,259,265,266,279,280,286,287,293,294,300,301,307,308,310,311,321,322,335,336,342,343,347,348,354,355,361,362,368,369,375,376,378,379,387,388,394,395,399,400,406,407,413,414,420,421,427,428,441,442,448,449,455,456,469,470,483,484,490,491,497,498,518,519,523,524,528,529,552,553,563,564,570,571,577,578,584,585,591,592,598,599,605,606,610,611,615,616,622,623,627,628,634,635,641,642,648,649,655,656,662,663,667,668]
theorem ks_eq:∀ P,ks=(Kf P).map (·.1):=λP=>by kernel_rfl
abbrev Hk:Hook:=L2.hookT Kf ks ks_eq 651 (tabObj #[])
abbrev Xt(s:Shared):Bool:=xlAt Q [] s&&recOk [] s
abbrev sn(s:Shared):=openSeen Q [] (importedModules PySem.Challenge.pw_onceroad_k15_refused_in_plays.main.body) Xt true s
noncomputable def runA(w:World)(a:OsState):=(Hd.lookS PySem.Challenge.pw_onceroad_k15_refused_in_plays NN w a).map λs=>((sn s).1,(sn s).2.1,(sn s).2.2.1,(sn s).2.2.2.1)
noncomputable def runB(w:World)(a:OsState):=(Hd.lookS PySem.Challenge.pw_onceroad_k15_refused_in_plays NN w a).map λs=>(sn s).2.2.2.2
noncomputable def runC(w:World)(a:OsState):=(Hd.lookS PySem.Challenge.pw_onceroad_k15_refused_in_plays NN w a).map λs=>(651::ks).map s.heap.get?
noncomputable def gdA(_:World)(_:OsState):=some ((openGood Q []).1,(openGood Q []).2.1,(openGood Q []).2.2.1,(openGood Q []).2.2.2.1)
noncomputable def gdB(_:World)(_:OsState):=some (openGood Q []).2.2.2.2
noncomputable def gdC(w:World)(_:OsState):=some (some (tabObj #[])::(Kf w.params).map λp=>some p.2)
noncomputable def tag{a:Type}(f g:World->OsState->a):Bool:=true
theorem tag1:(tag runA gdA&&(tag runB gdB&&tag runC runC))=true:=by k_qdec
theorem hA1(w:World)(a:OsState):runA w a=gdA w a:=by
 rw[PySem.W.Fast.te14279029037275987787,PySem.W.Fast.te6145751487196297829]
 kernel_rfl
theorem hB1(w:World)(a:OsState):runB w a=gdB w a:=by
 rw[PySem.W.Fast.te14390342431611554272,PySem.W.Fast.te18262704217873426082]
 kernel_rfl
theorem hC1(w:World)(a:OsState):runC w a=gdC w a:=by
 rw[PySem.W.Fast.te16144189475768938865]
 kernel_rfl
theorem hl:LeftO PySem.Challenge.pw_onceroad_k15_refused_in_plays Q [] Xt (Hook.obs Hk) (Hook.val Hk) NN:=Hd.left_of (by kernel_rfl) (by decide) (λs=>by kernel_rfl) λw a=>(Hd.lookT_map ..).trans (Hd.packs (hA1 w a) (hB1 w a) (hC1 w a))
end K15
namespace L2
open PySem PySem.Spec PyProof.Rows
variable{A:Around}{C a b dx it:Addr}{CX:CXT}{D:Ends}{E:Value->Shared->Prop}{H:Hp}{M:Model}{N ps:LN}{P:Program}{X:Cx}{base h:Heap}{body:List Stmt}{c e tg:Expr}{ch fp:LX}{d':Drawn}{es:List Expr}{f:Value->Value->Sem Value}{g:TG}{g':Array GenState}{i j n t':Nat}{kindOf:Str->Option NameKind}{kw:List (Str×Value)}{lo:Int}{mA mg:Str->Option Value}{o:HO}{op op':CmpOp}{outer:List Env}{pins:List (Addr×Obj)}{pl:Sem Bool}{pos:Pos}{qual x:Str}{r r':R2}{s s':Shared}{sc scope:Scope}{t te:TE}{tb:TS}{u:Value}{us:List Value}{v y:V}{vs xs:List V}{w:World}{α:Type}{σ:St}
abbrev Key:=Sum Int Str
def qc9:Key->Value->Bool
 | .inl k,v=>Value.isInt k v
 | .inr x,v=>Value.isStrOf x v
def keyH(w:World):Key->Int
 | .inl k=>hashInt k
 | .inr x=>hashStr w x
theorem qL:∀{k:Key} {v:Value},qc9 k v=true->(∃ i t,k=Sum.inl i/\v=Value.int i t)\/(∃ x t,k=Sum.inr x/\v=Value.str x t)
 | .inl i,v,h=>by
  obtain⟨t,e⟩:=Value.isInt_shape (k:=i) (v:=v) h;show .inl ⟨i,t,rfl,e⟩
 | .inr x,v,h=>by
  obtain⟨t,e⟩:=Value.isStrOf_shape (x:=x) (v:=v) h;show .inr ⟨x,t,rfl,e⟩
theorem keyIs_int(i:Int)(t:Tok):qc9 (.inl i) (.int i t)=true:=by simp[qc9,Value.isInt]
theorem keyIs_str(x:Str)(t:Tok):qc9 (.inr x) (.str x t)=true:=by simp[qc9,Value.isStrOf]
theorem key_ll(a b:Int):decide ((Sum.inl a:Key)=Sum.inl b)=(a==b):=by
 by_cases e:a=b
 .subst e;simp
 .have h:¬ (Sum.inl a:Key)=Sum.inl b:=λq=>e (Sum.inl.inj q);rw[yk h];show(yZ.mpr e).symm
theorem key_rr(a b:Str):decide ((Sum.inr a:Key)=Sum.inr b)=decide (a=b):=by
 by_cases e:a=b
 .subst e;simp
 .have h:¬ (Sum.inr a:Key)=Sum.inr b:=λq=>e (Sum.inr.inj q);rw[yk h,yk e]
theorem key_lr(a:Int)(b:Str):decide ((Sum.inl a:Key)=Sum.inr b)=false:=yk (λq=>nomatch q)
theorem key_rl(a:Str)(b:Int):decide ((Sum.inr a:Key)=Sum.inl b)=false:=yk (λq=>nomatch q)
def jy(prog:Program)(w:World):PySem.KeyKind prog w Key where
 is:=qc9
 hash:=keyH w
 inj:=λv a b c hb=>by
  rcases qL c with⟨i,t,rfl,rfl⟩ | ⟨x,t,rfl,rfl⟩
  .rcases qL hb with⟨j,u,rfl,e⟩ | ⟨y,u,rfl,e⟩
   .injection e with e1 _;rw[e1]
   .show nomatch e
  .rcases qL hb with⟨j,u,rfl,e⟩ | ⟨y,u,rfl,e⟩
   .show nomatch e
   .injection e with e1 _;rw[e1]
 byValue:=λk v h=>by
  rcases qL h with⟨i,t,rfl,rfl⟩ | ⟨x,t,rfl,rfl⟩<;>rfl
 pyHash:=λhv h=>by
  rcases qL hv with⟨i,t,rfl,rfl⟩ | ⟨x,t,rfl,rfl⟩
  .show wpAny_pyHash_int h
  .show wpAny_pyHash_str h
 eqBool:=λd hv h=>by
  rcases qL d with⟨i,t,rfl,rfl⟩ | ⟨x,t,rfl,rfl⟩
  .rcases qL hv with⟨j,u,rfl,rfl⟩ | ⟨y,u,rfl,rfl⟩
   .rw [key_ll] at h;show wpAny_eqBool_int h
   .rw [key_lr] at h;show SeqAt.EqAt.int_str i t y u _ _ _ _ h
  .rcases qL hv with⟨j,u,rfl,rfl⟩ | ⟨y,u,rfl,rfl⟩
   .rw [key_rl] at h;show SeqAt.EqAt.str_int x t j u _ _ _ _ h
   .rw [key_rr] at h;show wpAny_eqBool_str h
 «strs»:=λk x t v h=>by
  rcases qL h with⟨i,u,rfl,e⟩ | ⟨y,u,rfl,e⟩
  .show nomatch e
  .injection e with e1 _
   subst e1;cases v<;>rfl
theorem mixKind_int(prog:Program)(w:World)(i:Int)(t:Tok):(jy prog w).is (.inl i) (.int i t)=true:=keyIs_int i t
theorem mixKind_str(prog:Program)(w:World)(x:Str)(t:Tok):(jy prog w).is (.inr x) (.str x t)=true:=keyIs_str x t
inductive V where
 | non | bl (b:Bool) | int (i:Int) | str (x:Str) | byt (b:Array UInt8) | flt (b:UInt64) | ref (a:Addr) | ty (n:String)
 deriving DecidableEq
def RelV:V->Value->Prop
 | .non,u=>u=Value.none
 | .bl b,u=>u=Value.bool b
 | .int i,u=>∃ t,u=Value.int i t
 | .str x,u=>∃ t,u=Value.str x t
 | .byt b,u=>∃ t,u=Value.bytes b t
 | .flt b,u=>∃ t,u=Value.float b t
 | .ref a,u=>u=Value.ref a
 | .ty n,u=>u=Value.type n
abbrev Vals:List V->List Value->Prop:=Paired RelV
theorem Vals.length(r:Vals xs us):xs.length=us.length:=Paired.length r
theorem Vals.get:∀{xs:List V} {us:List Value} {i:Nat} {x:V},Vals xs us->xs[i]?=some x->∃ u,us[i]?=some u/\RelV x u
 | _,_,_,_,.nil,e=>by simp at e
 | _,_,0,_,.cons r _,e=>by simp at e;subst e;show⟨_,rfl,r⟩
 | _,_,i+1,x,.cons _ t,e=>by
  obtain⟨u,h1,a⟩:=Vals.get (i:=i) (x:=x) t (by simpa using e);show⟨u,by simpa using h1,a⟩
theorem Vals.set{x:V}(r:RelV x u):∀{xs:List V} {us:List Value} (i:Nat),Vals xs us->Vals (xs.set i x) (us.set i u)
 | _,_,_,.nil=>.nil
 | _,_,0,.cons _ t=>.cons r t
 | _,_,i+1,.cons q t=>.cons q (Vals.set r i t)
theorem Vals.append:∀{xs ys:List V} {us a:List Value},Vals xs us->Vals ys a->Vals (xs++ys) (us++a)
 | _,_,_,_,.nil,s=>s
 | _,_,_,_,.cons r t,s=>.cons r (Vals.append t s)
theorem Vals.take:∀{xs:List V} {us:List Value} (n:Nat),Vals xs us->Vals (xs.take n) (us.take n)
 | _,_,0,_=>.nil
 | _,_,_+1,.nil=>.nil
 | _,_,n+1,.cons r t=>.cons r (Vals.take n t)
theorem Vals.drop:∀{xs:List V} {us:List Value} (n:Nat),Vals xs us->Vals (xs.drop n) (us.drop n)
 | _,_,0,r=>r
 | _,_,_+1,.nil=>.nil
 | _,_,n+1,.cons _ t=>Vals.drop n t
def RelO:Option V->Option Value->Prop
 | some v,some u=>RelV v u
 | none,none=>True
 | _,_=>False
def KV{a:Type}:List (a×V)->List (a×Value)->Prop:=Paired λ(p:a×V) (q:a×Value)=>p.1=q.1/\RelV p.2 q.2
def kV:Key->V
 | .inl i=>.int i
 | .inr x=>.str x
inductive HO where
 /-- a list -/
 | lst (xs:List V)
 /-- a tuple (never changes) -/
 | tup (xs:List V)
 /-- a dict whose keys are ints and texts;one whose keys are tuples of ints and texts (the empty one is both) -/
 | dK (kvs:List (Key×V)) | dT (kvs:List (List Key×V))
 /-- a set of ints: its members,its size -/
 | set (S:Int->Bool) (n:Nat)
 /-- an instance of the class at C,its dict at dx,its attributes -/
 | ins (C dx:Addr) (fs:List (Str×V))
 /-- the dict of the instance at x -/
 | own (x:Addr)
 /-- the dict of an exception -/
 | xd (fs:List (Str×V))
 /-- a bound method,f of x -/
 | met (f x:Addr)
 /-- a range object lo,lo+1,.. below hi -/
 | rng (lo hi:Int)
 /-- a thing that is known to the object (the script;a dict while a loop walks it): read,never written while it is so -/
 | frz (o:Obj) (u:HO)
 /-- a code object's table -/
 | tbl (ps:Array Value)
 /-- any other thing,by what is true of its one object (a def of one's own: SetO a S n:=HO.ext λh=>..) -/
 | ext (φ:Heap->Prop)
abbrev Hp:=Addr->Option HO
def upd(H:Hp)(a:Addr)(o:HO):Hp:=λb=>if b=a then some o else H b
theorem qc:upd H a o a=some o:=by unfold upd;rw[yB rfl]
theorem qh(h:b≠a):upd H a o b=H b:=by unfold upd;rw[yw h]
theorem jx{u:HO}(h:H a=some o)(h':H b=some u)(d:o≠u):a≠b:=by
 intro e;subst e;rw[h] at h';show d (yl h')
theorem qq(h:H a=some o)(h':H b=none):a≠b:=by
 intro e;subst e;rw[h] at h';cases h'
section
variable(P:Program)(w:World)
def ObjOk(H:Hp)(h:Heap)(a:Addr):HO->Prop
 | .lst xs=>xs.length<=sizeLine/\∃(b:List Value) (n:Nat),Vals xs b/\h.get? a=some { cls:=.type "list",data:=.seq b.toArray n }
 | .tup xs=>xs.length<=sizeLine/\∃ b:List Value,Vals xs b/\IsTup h a b.toArray
 | .dK kvs=>kvs.length<=sizeLine/\(a==sysModules)=false/\∃ vs,KV kvs vs/\h.DictOf (jy P w) a vs
 | .dT kvs=>kvs.length<=sizeLine/\(a==sysModules)=false/\∃ xs:List (List Key×Addr×Value),
   Paired (λ(p:List Key×V) (q:List Key×Addr×Value)=>p.1=q.1/\H q.2.1=some (.tup (p.1.map kV))/\RelV p.2 q.2.2) kvs xs /\
   ∃ o es ep,h.get? a=some o/\o.ExactDict/\o.data=.dict es ep/\es.toList=xs.map (entryOfKey (tupleKind (jy P w)))/\(xs.map (·.1)).Nodup
 | .set S n=>h.SetOf (intKind P w) a S n
 | .ins C dx fs=>H dx=some (.own a)/\fs.length<=1000/\dx≠a/\h.get? a=some (PySem.W.instObj C dx) /\
   ∃ mA,h.Ns1 dx mA/\(∀ f,RelO (fs.lookup f) (mA f))/\PySem.Within mA (fs.map (·.1))
 | .own _=>∃ o,h.get? a=some o
 | .xd fs=>∃ mA,h.Ns1 a mA/\∀ f,RelO (fs.lookup f) (mA f)
 | .rng lo hi=>∃ t u v,h.get? a=some { cls:=.type "range",data:=.fields #[.int lo t,.int hi u,.int 1 v] }
 | .frz o u=>h.get? a=some o/\ObjOk H h a u
 | .tbl ps=>h.get? a=some { cls:=.none,data:=.fields ps }
 | .met f x=>h.get? a=some (PySem.W.methodObj (.ref f) (.ref x))
 | .ext φ=>φ h/\(∃ o,h.get? a=some o)/\∀ h1 c:Heap,φ h1->(∀ o,h1.get? a=some o->c.get? a=some o)->φ c
def HOk(H:Hp)(h:Heap):Prop:=∀ a o,H a=some o->ObjOk P w H h a o
end
section
variable{P:Program}{w:World}{H H':Hp}{h h':Heap}{a:Addr}{o:HO}
theorem ObjOk.lt(x:ObjOk P w H h a o):a<h.objs.size:=by
 cases o with
 | lst xs=>obtain⟨_,_,_,_,e⟩:=x;show yy e
 | tup xs=>obtain⟨_,_,_,p⟩:=x;show p.lt
 | dK kvs=>obtain⟨_,_,_,_,o,_,_,e,_⟩:=x;show yy e
 | dT kvs=>obtain⟨_,_,_,_,o,_,_,e,_⟩:=x;show yy e
 | set S n=>obtain⟨o,_,_,_,e,_⟩:=x;show yy e
 | ins C dx fs=>obtain⟨_,_,_,e,_⟩:=x;show yy e
 | own y=>obtain⟨_,e⟩:=x;show yy e
 | xd fs=>obtain⟨_,⟨_,_,_,e,_⟩,_⟩:=x;show yy e
 | rng lo hi=>obtain⟨_,_,_,e⟩:=x;show yy e
 | frz ob u=>obtain⟨e,_⟩:=x;show yy e
 | tbl ps=>show yy (show h.get? a=some _ from x)
 | met f y=>show yy (show h.get? a=some _ from x)
 | ext φ=>obtain⟨_,⟨_,e⟩,_⟩:=x;show yy e
theorem Paired.mapP{e:Type}{F G:α->e->Prop}:∀{c:List α} {d:List e},Paired F c d->(∀ a b,F a b->G a b)->Paired G c d
 | _,_,.nil,_=>.nil
 | _,_,.cons r t,f=>.cons (f _ _ r) (Paired.mapP t f)
theorem ObjOk.stay(x:ObjOk P w H h a o)(k:∀ b u,(b=a\/H b=some (.own a))->h.get? b=some u->h'.get? b=some u)
  (l:∀ b,H b=some (.own a)->H' b=some (.own a)) (m:∀ b xs,H b=some (.tup xs)->H' b=some (.tup xs)):ObjOk P w H' h' a o:=by
 induction o with
 | lst xs=>obtain⟨z,i,n,r,e⟩:=x;show⟨z,i,n,r,k _ _ (.inl rfl) e⟩
 | tup xs=>obtain⟨z,i,r,g,e,c⟩:=x;show⟨z,i,r,g,k _ _ (.inl rfl) e,c⟩
 | dK kvs=>obtain⟨z,y,vs,r,g,es,ep,e,c⟩:=x;show⟨z,y,vs,r,g,es,ep,k _ _ (.inl rfl) e,c⟩
 | dT kvs =>
  obtain⟨z,y,xs,r,g,es,ep,e,c⟩:=x;show⟨z,y,xs,Paired.mapP r λp q z=>⟨z.1,m _ _ z.2.1,z.2.2⟩,g,es,ep,k _ _ (.inl rfl) e,c⟩
 | set S n=>obtain⟨g,es,ep,t,e,c⟩:=x;show⟨g,es,ep,t,k _ _ (.inl rfl) e,c⟩
 | ins C dx fs =>
  obtain⟨d,z,s,e,mA,⟨od,es,ep,j,c⟩,r⟩:=x;show⟨l _ d,z,s,k _ _ (.inl rfl) e,mA,⟨od,es,ep,k _ _ (.inr d) j,c⟩,r⟩
 | own y=>obtain⟨g,e⟩:=x;show⟨g,k _ _ (.inl rfl) e⟩
 | xd fs=>obtain⟨mA,⟨od,es,ep,e,c⟩,r⟩:=x;show⟨mA,⟨od,es,ep,k _ _ (.inl rfl) e,c⟩,r⟩
 | rng lo hi=>obtain⟨t,u,v,e⟩:=x;show⟨t,u,v,k _ _ (.inl rfl) e⟩
 | frz g u ih=>obtain⟨e,q⟩:=x;show⟨k _ _ (.inl rfl) e,ih q⟩
 | tbl ps =>
  have e:h.get? a=some { cls:=.none,data:=.fields ps }:=x;show h'.get? a=some { cls:=.none,data:=.fields ps };show k a _ (.inl rfl) e
 | met f y =>
  have e:h.get? a=some (PySem.W.methodObj (.ref f) (.ref y)):=x;show h'.get? a=some (PySem.W.methodObj (.ref f) (.ref y));show k a _ (.inl rfl) e
 | ext φ=>obtain⟨p,⟨o,e⟩,st⟩:=x;show⟨st _ _ p λo q=>k _ _ (.inl rfl) q,⟨o,k _ _ (.inl rfl) e⟩,st⟩
theorem HOk.lt(x:HOk P w H h)(e:H a=some o):a<h.objs.size:=(x a o e).lt
theorem HOk.fresh(x:HOk P w H h)(e:h.objs.size<=a):H a=none:=by
 cases q:H a with
 | none=>rfl
 | some u=>show absurd (yi (x.lt q) e) (yU _)
theorem HOk.kept(x:HOk P w H h)(k:∀ b u,h.get? b=some u->h'.get? b=some u):HOk P w H h':=λa o e =>
 (x a o e).stay (λb u _ q=>k b u q) (λ_ q=>q) λ_ _ q=>q
theorem HOk.laid(x:HOk P w H h)(k:∀ b u,h.get? b=some u->h'.get? b=some u)(f:h.objs.size<=a)(new:ObjOk P w (upd H a o) h' a o):HOk P w (upd H a o) h':=λb u e=>by
 have d:=x.fresh f;by_cases hb:b=a
 .subst hb;rw[qc] at e;cases e;show new
 .rw [qh hb] at e;show(x b u e).stay (λc v _ q=>k c v q) (λc q=>by rw[qh (qq q d)];show q) λc xs q=>by rw[qh (qq q d)];show q
end
def Rd(H:Hp)(a:Addr)(u:HO):Prop:=H a=some u\/∃ o,H a=some (.frz o u)
theorem Rd.ok{u:HO}(r:Rd H a u)(x:HOk P w H h):ObjOk P w H h a u:=by
 rcases r with r | ⟨o,r⟩
 .show x a u r
 .obtain⟨_,q⟩:=x a _ r;show q
def Mut:Option HO->Prop
 | some (.lst _)=>True
 | some (.dK _)=>True
 | some (.dT _)=>True
 | some (.set _ _)=>True
 | some (.ins _ _ _)=>True
 | some (.ext _)=>True
 | _=>False
section
variable{P:Program}{w:World}{H:Hp}{h h':Heap}{x e:Addr}{o':HO}
theorem HOk.write(ok:HOk P w H h)(g:Mut (H x))(j:e=x\/H e=some (.own x))(k:∀ b u,b≠e->h.get? b=some u->h'.get? b=some u)(i:∃ u,h'.get? e=some u)
  (new:ObjOk P w (upd H x o') h' x o'):HOk P w (upd H x o') h':=λb u q=>by
 have d:∀ c y,H c=some (.own y)->c≠x:=λc y r z=>by subst z;rw[r] at g;show g
 have f:∀ c xs,H c=some (.tup xs)->c≠x:=λc xs r z=>by subst z;rw[r] at g;show g
 by_cases hb:b=x
 .subst hb;rw[qc] at q;cases q;show new
 .rw [qh hb] at q;by_cases a:b=e
  .have l:H b=some (.own x):=by
    rcases j with z | z
    .show absurd (a.trans z) hb
    .rw [a];show z
   rw[q] at l;cases l;obtain⟨v,hv⟩:=i;show⟨v,by rw[a];show hv⟩
  .show(ok b u q).stay (λc v hc r=>k c v ?_ r) (λc r=>by rw[qh (d c b r)];show r) λc xs r=>by rw[qh (f c xs r)];show r
   rcases hc with rfl | hc
   .show a
   .rintro rfl;rcases j with z | z
    .show d c b hc z
    .rw [hc] at z;cases z;show hb rfl
end
structure Un(fs ex:LX)(H H':Hp)(h h':Heap):Prop where
 keep:∀ b o,h.get? b=some o->H b=none->b∉fs->b∉ex->h'.get? b=some o
 slot:∀ b o,h.get? b=some o->H b=none->b∈fs->b∉ex->∃ sl,h'.get? b=some { o with slots:=sl }
 free:∀ b o,h.get? b=some o->H b=none->b∉ex->H' b=none
 there:∀ b o,h.get? b=some o->b∉ex->∃ o',h'.get? b=some o'
 tups:∀ b xs,H b=some (.tup xs)->H' b=some (.tup xs)
 frzs:∀ b o u,H b=some (.frz o u)->H' b=some (.frz o u)
 tbls:∀ b ps,H b=some (.tbl ps)->∃ more,H' b=some (.tbl (ps++more))
section
variable{fs fs' ex ex':LX}{H H1 H2:Hp}{h h1 h2 h':Heap}{a x e:Addr}{o:HO}
theorem Un.any(u:Un fs ex H H1 h h1){a:Obj}(q:h.get? b=some a)(n:H b=none)(c:b∉ex):∃ d,h1.get? b=some { a with slots:=d }:=by
 by_cases hb:b∈fs
 .show u.slot b a q n hb c
 .show⟨a.slots,u.keep b a q n hb c⟩
theorem Un.kept(k:∀ b u,h.get? b=some u->h'.get? b=some u):Un fs ex H H h h':=
 ⟨λb a q _ _ _=>k b a q,λb a q _ _ _=>⟨a.slots,k b a q⟩,λ_ _ _ n _=>n,λb a q _=>⟨a,k b a q⟩,λ_ _ q=>q,λ_ _ _ q=>q,λ_ ps q=>⟨#[],by rw[q];simp⟩⟩
theorem Un.refl:Un fs ex H H h h:=Un.kept λ_ _ q=>q
theorem Un.laid(k:∀ b u,h.get? b=some u->h'.get? b=some u)(d:h.objs.size<=a)(c:H a=none):Un fs ex H (upd H a o) h h' where
 keep:=λb u q _ _ _=>k b u q
 slot:=λb u q _ _ _=>⟨u.slots,k b u q⟩
 free:=λb u q n _=>by rw[qh (yG (yi (yy q) d))];show n
 there:=λb u q _=>⟨u,k b u q⟩
 tups:=λb xs q=>by rw[qh (qq q c)];show q
 frzs:=λb u xs q=>by rw[qh (qq q c)];show q
 tbls:=λb ps q=>⟨#[],by rw[qh (qq q c),q];simp⟩
theorem Un.write(c:Mut (H x))(i:e=x\/H e=some (.own x))(k:∀ b u,b≠e->h.get? b=some u->h'.get? b=some u)(d:∃ u,h'.get? e=some u):Un fs ex H (upd H x o) h h':=by
 have g:∀ b,H b=none->b≠x:=λb n z=>by subst z;rw[n] at c;show c
 have hb:∀ b,H b=none->b≠e:=λb n z=>by
  subst z;rcases i with r | r
  .show g b n r
  .rw [n] at r;cases r
 have f:∀ b u,H b=some u->¬ Mut (some u)->b≠x:=λb u q j z=>by subst z;rw[q] at c;show j c
 show⟨λb u q n _ _=>k b u (hb b n) q,λb u q n _ _=>⟨u.slots,k b u (hb b n) q⟩,λb u q n _=>by rw[qh (g b n)];show n,λb u q _=>?_,
  λb xs q=>by rw[qh (f b _ q λz=>z)];show q,λb u xs q=>by rw[qh (f b _ q λz=>z)];show q,λb ps q=>⟨#[],by rw[qh (f b _ q λz=>z),q];simp⟩⟩
 by_cases a:b=e
 .subst a;show d
 .show⟨u,k b u a q⟩
end
def trk(h:Heap)(H:Hp):LX:=(List.range h.objs.size).filter λa=>(H a).isSome
def qdy(h:Heap)(H:Hp):Heap:=PySem.W.hideAll h (trk h H)
theorem qct(h:Heap)(H:Hp):(qdy h H).objs.size=h.objs.size:=PySem.W.hideAll_size _ _
theorem qdz{o:Obj}(e:h.get? b=some o)(n:H b=none):(qdy h H).get? b=some o:=
 PySem.W.hideAll_get _ e λa=>by
  have q:(H b).isSome=true:=(yn.mp a).2;rw[n] at q;simp at q
theorem qej{o:Obj}(e:(qdy h H).get? b=some o):h.get? b=some o/\H b=none:=by
 have a:h.get? b=some o:=PySem.W.of_hideAll (trk h H) e;show⟨a,?_⟩
 cases q:H b with
 | none=>rfl
 | some x =>
  have c:b∈trk h H:=yn.mpr ⟨Xd.mpr (yy a),by simp[q]⟩;have z:(qdy h H).get? b=none:=PySem.W.hideAll_none (trk h H) c;rw[z] at e;cases e
def allNews(g h:Heap)(L:Addr):List (Addr×Obj):=(List.range h.objs.size).filterMap λa=>if a=L\/(g.get? a).isSome=true then none else(h.get? a).map λo=>(a,o)
def rest(g h:Heap)(L d:Addr):List (Addr×Obj):=(allNews g h L).filter λp=>decide (p.1≠d)
structure Mod(K:yf)(mg:Str->Option Value)(base:Heap):Prop where
 kin:K.In base
 glob:base.Ns mainGlobals mg
 blt:∃ mb,base.Ns builtinsNs mb/\∀ x:Str,x≠"__name__"->mb x=bootBuiltins x
 nolimit:base.NoLimit
structure Cx where
 prog:Program
 w:World
 K:yf
 mg:Str->Option Value
 base:Heap
 A:Around
 N:LN
 s₀:Shared
 H₀:Hp
 env:Env
 outer:List Env
 stack:List Env
 ex:LX
 fn:Str->Bool
 calm:Bool
 pn:List (Addr×Obj)
 xe:Value->Shared->Prop
def frs(l:List Env):LX:=l.filterMap (·.frame)
abbrev Cx.fs(X:Cx):LX:=frs X.outer
def Vis(sc:Scope)(x:Str):Prop:=sc.names.lookup x=some .local\/sc.names.lookup x=some .cell\/sc.names.lookup x=some .free
def Loc(sc:Scope)(x:Str):Prop:=sc.names.lookup x=some .local\/sc.names.lookup x=some .cell
def Look(env:Env)(h:Heap)(m:Str->Option Value)(x:Str)(u:Value):Prop:=
 (env.kindOf x=some .local/\m x=some u)\/((env.kindOf x=some .cell\/env.kindOf x=some .free)/\∃ c,env.cells.lookup x=some c/\h.IsCell c (some u))
structure Cx.Ok(X:Cx):Prop where
 mod:Mod X.K X.mg X.base
 kind:X.env.scope.kind=.function
 glob:X.env.globals=mainGlobals
 blt:X.env.builtins=builtinsNs
 above:X.s₀.heap.objs.size<=X.env.locals
 inj:∀ x y c,X.env.cells.lookup x=some c->X.env.cells.lookup y=some c->x=y
 has:∀ x,(X.env.kindOf x=some .cell\/X.env.kindOf x=some .free)->∃ c,X.env.cells.lookup x=some c
 cab:∀ x c,X.fn x=true->X.env.cells.lookup x=some c->X.s₀.heap.objs.size<=c
 hd:X.calm=true->X.A.handled=none
 frames:X.A.frames=some X.stack
 stk:X.stack=X.outer\/(X.stack=X.env::X.outer/\X.env.frame=some X.env.locals)
 exf:∀ b∈X.ex,b≠X.env.locals/\∀ x c,X.env.cells.lookup x=some c->c≠b
 bs:∀ b o,X.base.get? b=some o->X.s₀.heap.get? b=some o/\X.H₀ b=none
 bsz:X.base.objs.size<=X.s₀.heap.objs.size
 noex:∀ b o,X.base.get? b=some o->b∉X.ex
 exfs:∀ b∈X.ex,b∉X.fs
 funs:X.s₀.heap.FunFrames X.base X.outer
 frf:∀ b∈X.fs,X.H₀ b=none
structure Inv(X:Cx)(pins:List (Addr×Obj))(σ:List (Option V))(H:Hp)(s:Shared):Prop where
 ok:X.Ok
 os:s.os=X.s₀.os
 bare:AllBare s.gens
 base:Un X.fs X.ex X.H₀ H X.s₀.heap s.heap
 loc:∃ m,s.heap.Ns X.env.locals m/\∀(i:Nat) (x:Str) (v:V),X.N[i]?=some x->σ[i]?=some (some v)->Vis X.env.scope x->∃ u,RelV v u/\Look X.env s.heap m x u
 cell:∀ x c,X.env.cells.lookup x=some c->∃ v,s.heap.IsCell c v
 free:H X.env.locals=none
 freeC:∀ x c,X.env.cells.lookup x=some c->H c=none
 pin:∀ p∈X.pn++pins,s.heap.get? p.1=some p.2/\H p.1=none/\p.1≠X.env.locals/\p.1∉X.fs/\∀ v,p.2.data≠.cell v
 hok:HOk X.prog X.w H s.heap
 len:σ.length=X.N.length
section
variable{X:Cx}{pins:List (Addr×Obj)}{σ:List (Option V)}{H H':Hp}{s:Shared}{h':Heap}
theorem Cx.Ok.nofr(ok:X.Ok){o:Obj}(e:X.base.get? b=some o):b∉X.fs:=λhb=>by
 have:=(ok.funs.mem hb).1;rw[e] at this;cases this
theorem Inv.bs(I:Inv X pins σ H s):∀ b o,X.base.get? b=some o->s.heap.get? b=some o/\H b=none:=λb o e =>
 ⟨I.base.keep b o (I.ok.bs b o e).1 (I.ok.bs b o e).2 (I.ok.nofr e) (I.ok.noex b o e),I.base.free b o (I.ok.bs b o e).1 (I.ok.bs b o e).2 (I.ok.noex b o e)⟩
theorem Inv.bk(I:Inv X pins σ H s):∀ b o,X.base.get? b=some o->s.heap.get? b=some o:=λb o e=>(I.bs b o e).1
theorem Inv.mod(I:Inv X pins σ H s):Mod X.K X.mg X.base:=I.ok.mod
theorem Inv.kIn(I:Inv X pins σ H s):X.K.In s.heap:=I.ok.mod.kin.keeps I.bk
theorem Inv.lt(I:Inv X pins σ H s):X.env.locals<s.heap.objs.size:=let ⟨_,hn,_⟩:=I.loc;hn.lt
theorem Inv.sz(I:Inv X pins σ H s):X.s₀.heap.objs.size<=s.heap.objs.size:=yh I.ok.above (Ym I.lt)
theorem Inv.nofs(I:Inv X pins σ H s)(h:s.heap.objs.size<=a):a∉X.fs:=λhb=>by
 obtain⟨_,o,b,_⟩:=I.ok.funs.mem hb;show absurd (yi (yy b) (yh I.sz h)) (yU _)
theorem Inv.cne(I:Inv X pins σ H s):∀ x c,X.env.cells.lookup x=some c->c≠X.env.locals:=λx c e z=>by
 obtain⟨v,o,f,d⟩:=I.cell x c e;obtain⟨m,⟨g,es,ep,b,a,_⟩,_⟩:=I.loc;rw[z,b] at f;cases f;rw[a] at d;cases d
theorem Inv.funs(I:Inv X pins σ H s):s.heap.FunFrames X.base X.outer:=by
 have all:∀(l:List Env),(∀ b∈frs l,b∈X.fs)->X.s₀.heap.FunFrames X.base l->s.heap.FunFrames X.base l:=by
  intro l
  induction l with
  | nil=>intro _ _;trivial
  | cons env r ih =>
   intro d hl;obtain⟨g,⟨L,o,c,h,i,f⟩,j⟩:=hl;have a:L∈X.fs:=d L (by unfold frs;rw[Yv,c];show yC);obtain⟨m,e⟩:=I.base.slot L o i (I.ok.frf L a) a λz=>I.ok.exfs L z a;show⟨g,⟨L,_,c,h,e,f⟩,ih (λb hb=>d b (by unfold frs;rw[Yv,c];show yz _ hb)) j⟩
 show all X.outer (λ_ hb=>hb) I.ok.funs
theorem Inv.stack(I:Inv X pins σ H s):s.heap.FunFrames X.base X.stack:=by
 rcases I.ok.stk with e | ⟨e,hf⟩
 .rw [e];show I.funs
 .rw [e];obtain⟨m,a,_⟩:=I.loc;show .cons (by rw[I.ok.kind];decide) hf a ?_ I.funs;show Heap.get?_none_of_le (yh I.ok.bsz I.ok.above)
theorem Inv.stkSub(I:Inv X pins σ H s):∀ b∈frs X.stack,b∈X.env.locals::X.fs:=λb hb=>by
 rcases I.ok.stk with e | ⟨e,hf⟩
 .rw [e] at hb;show yz _ hb
 .rw [e] at hb;unfold frs at hb;rw[Yv,hf] at hb;show hb
theorem Inv.stkFree(I:Inv X pins σ H s):∀ b∈frs X.stack,H b=none:=λb hb=>by
 rcases yt.mp (I.stkSub b hb) with e | hb
 .rw [e];show I.free
 .obtain⟨_,o,a,_⟩:=I.ok.funs.mem hb;show I.base.free b o a (I.ok.frf b hb) λz=>I.ok.exfs b z hb
theorem Inv.step(I:Inv X pins σ H s)
  (f:∀ b∈ch,(b∈X.ex\/X.s₀.heap.objs.size<=b)/\b≠X.env.locals/\(∀ x c,X.env.cells.lookup x=some c->c≠b)/\∀ p∈X.pn++pins,p.1≠b)
  (keep:∀ b o,b≠X.env.locals->b∉X.fs->b∉ch->s.heap.get? b=some o->H b=none->h'.get? b=some o)
  (t:∀ b o,b≠X.env.locals->b∈X.fs->b∉ch->s.heap.get? b=some o->H b=none->∃ M,h'.get? b=some { o with slots:=M }) (free:∀ b o,b∉ch->s.heap.get? b=some o->H b=none->H' b=none)
  (y:∀ b o,b∉ch->s.heap.get? b=some o->∃ F,h'.get? b=some F)
  (J:∀ b xs,H b=some (.tup xs)->H' b=some (.tup xs)) (C:∀ b o u,H b=some (.frz o u)->H' b=some (.frz o u)) (G:∀ b ps,H b=some (.tbl ps)->∃ D,H' b=some (.tbl (ps++D)))
  (ns:∀ m,s.heap.Ns X.env.locals m->h'.Ns X.env.locals m) (L:HOk X.prog X.w H' h') (T:AllBare g') :
  Inv X pins σ H' { s with heap:=h',gens:=g',drawn:=d',toks:=t' }:=by
 have E:∀ b o,X.s₀.heap.get? b=some o->b≠X.env.locals:=λb o e=>yG (yi (yy e) I.ok.above)
 have j:∀ b o,X.s₀.heap.get? b=some o->b∉X.ex->b∉ch:=λb o e a hb=>by
  rcases(f b hb).1 with z | z
  .show a z
  .show absurd (yi (yy e) z) (yU _)
 have cellK:∀ x c,X.env.cells.lookup x=some c->∀ v,s.heap.IsCell c v->h'.IsCell c v:=λx c e v ⟨o,A,K⟩=>by
  have g:c∉ch:=λz=>(f c z).2.2.1 x c e rfl;by_cases hc:c∈X.fs
  .obtain⟨M,q⟩:=t c o (I.cne x c e) hc g A (I.freeC x c e);show⟨_,q,K⟩
  .show⟨o,keep c o (I.cne x c e) hc g A (I.freeC x c e),K⟩
 show⟨I.ok,I.os,T,⟨λb o e n hb a=>?_,λb o e n hb a=>?_,λb o e n a=>?_,λb o e a=>?_,λb xs e=>J b xs (I.base.tups b xs e),λb o xs e=>C b o xs (I.base.frzs b o xs e),λb ps e=>?_⟩,?_,λx c e=>?_,?_,λx c e=>?_,λp O=>?_,L,I.len⟩
 .show keep b o (E b o e) hb (j b o e a) (I.base.keep b o e n hb a) (I.base.free b o e n a)
 .obtain⟨M,h⟩:=I.base.slot b o e n hb a;obtain⟨N,B⟩:=t b _ (E b o e) hb (j b o e a) h (I.base.free b o e n a);show⟨N,B⟩
 .obtain⟨F,h⟩:=I.base.there b o e a;show free b F (j b o e a) h (I.base.free b o e n a)
 .obtain⟨F,h⟩:=I.base.there b o e a;show y b F (j b o e a) h
 .obtain⟨W,h⟩:=I.base.tbls b ps e;obtain⟨Y,B⟩:=G b _ h;show⟨W++Y,by rw[B,Array.append_assoc]⟩
 .obtain⟨m,U,hl⟩:=I.loc;show⟨m,ns m U,λi x v h B S=>?_⟩;obtain⟨u,r,l⟩:=hl i x v h B S;show⟨u,r,?_⟩;rcases l with l | ⟨k,c,e,z⟩
  .show .inl l
  .show .inr ⟨k,c,e,cellK x c e _ z⟩
 .obtain⟨v,z⟩:=I.cell x c e;show⟨v,cellK x c e v z⟩
 .obtain⟨m,⟨o,_,_,A,_⟩,_⟩:=I.loc;show free _ o (λz=>(f _ z).2.1 rfl) A I.free
 .obtain⟨v,o,A,K⟩:=I.cell x c e;show free c o (λz=>(f c z).2.2.1 x c e rfl) A (I.freeC x c e)
 .obtain⟨e,n,P,R,d⟩:=I.pin p O;have g:p.1∉ch:=λz=>(f p.1 z).2.2.2 p O rfl;show⟨keep p.1 p.2 P R g e n,free p.1 p.2 g e n,P,R,d⟩
theorem Inv.un(I:Inv X pins σ H s)(u:Un X.fs [] H H' s.heap h')(f:HOk X.prog X.w H' h'):Inv X pins σ H' { s with heap:=h',toks:=t' }:=by
 obtain⟨m,⟨o,es,ep,g,r⟩,_⟩:=id I.loc;obtain⟨p,h⟩:=u.any g I.free (by simp)
 show I.step (g':=s.gens) (d':=s.drawn) (ch:=[]) (λ_ z=>nomatch z) (λb o _ hb _ e n=>u.keep b o e n hb (by simp)) (λb o _ hb _ e n=>u.slot b o e n hb (by simp)) (λb o _ e n=>u.free b o e n (by simp)) (λb o _ e=>u.there b o e (by simp)) u.tups u.frzs u.tbls (λj i=>by
  obtain⟨l,d,c,a,r'⟩:=i;rw[g] at a;cases a;show⟨_,d,c,h,r'⟩) f I.bare
theorem Inv.call(I:Inv X pins σ H s)(u:Un (frs X.stack) ch H H' s.heap h')(i:HOk X.prog X.w H' h')(l:AllBare g')
  (a:∀ b∈ch,(b∈X.ex\/X.s₀.heap.objs.size<=b)/\b≠X.env.locals/\(∀ x c,X.env.cells.lookup x=some c->c≠b)/\∀ p∈X.pn++pins,p.1≠b) :
  Inv X pins σ H' { s with heap:=h',gens:=g',drawn:=d',toks:=t' }:=by
 obtain⟨m,⟨o,es,ep,j,r⟩,_⟩:=id I.loc;obtain⟨y,h⟩:=u.any j I.free λz=>(a _ z).2.1 rfl
 show I.step (ch:=ch) a (λb o h hb hc e n=>u.keep b o e n (λz=>(yt.mp (I.stkSub b z)).elim h hb) hc) (λb o _ _ hc e n=>u.any e n hc) (λb o hc e n=>u.free b o e n hc) (λb o hc e=>u.there b o e hc) u.tups u.frzs u.tbls (λt q=>by
  obtain⟨v,g,f,d,r'⟩:=q;rw[j] at d;cases d;show⟨_,g,f,h,r'⟩) i l
theorem Inv.turned(I:Inv X pins σ H s)(k:∀ b o,b≠it->s.heap.get? b=some o->h'.get? b=some o)(i:H it=none)(d:it≠X.env.locals)
  (h1:it∈X.ex\/X.s₀.heap.objs.size<=it) (f:∀ x c,X.env.cells.lookup x=some c->c≠it) (g:∀ p∈X.pn++pins,p.1≠it):Inv X pins σ H { s with heap:=h',toks:=t' }:=by
 have a:∀ b u,H b=some u->b≠it:=λb u e z=>by rw[z,i] at e;cases e
 show I.step (g':=s.gens) (d':=s.drawn) (ch:=[it]) (λb hb=>?_) (λb o _ _ hc e _=>k b o (λz=>hc (by simp[z])) e) (λb o _ _ hc e _=>⟨o.slots,k b o (λz=>hc (by simp[z])) e⟩) (λ_ _ _ _ n=>n)
  (λb o hc e=>⟨o,k b o (λz=>hc (by simp[z])) e⟩) (λ_ _ e=>e) (λ_ _ _ e=>e) (λb ps e=>⟨#[],by rw[e];simp⟩) (λm h=>?_) (λb u e=>?_) I.bare
 .have e:b=it:=by simpa using hb
  subst e;show⟨h1,d,f,g⟩
 .obtain⟨o,es,ep,j,r⟩:=h;show⟨o,es,ep,k _ o (YW d) j,r⟩
 .show(I.hok b u e).stay (λc v hc q=>k c v ?_ q) (λ_ q=>q) λ_ _ q=>q;rcases hc with z | z
  .rw [z];show a b u e
  .show a c _ z
theorem Inv.tok(I:Inv X pins σ H s)(t:Nat):Inv X pins σ H { s with toks:=t }:=I.un (h':=s.heap) (t':=t) Un.refl I.hok
theorem Inv.kept(I:Inv X pins σ H s)(k:∀ b u,s.heap.get? b=some u->h'.get? b=some u):Inv X pins σ H { s with heap:=h',toks:=t' }:=I.un (Un.kept k) (I.hok.kept k)
theorem Inv.laid(I:Inv X pins σ H s)(k:∀ b u,s.heap.get? b=some u->h'.get? b=some u)(c:s.heap.objs.size<=a)(new:ObjOk X.prog X.w (upd H a o) h' a o) :
  Inv X pins σ (upd H a o) { s with heap:=h',toks:=t' }:=I.un (Un.laid k c (I.hok.fresh c)) (I.hok.laid k c new)
theorem Inv.write{x e:Addr}(I:Inv X pins σ H s)(d:Mut (H x))(c:e=x\/H e=some (.own x))(k:∀ b u,b≠e->s.heap.get? b=some u->h'.get? b=some u)(a:∃ u,h'.get? e=some u)
  (new:ObjOk X.prog X.w (upd H x o) h' x o):Inv X pins σ (upd H x o) { s with heap:=h',toks:=t' }:=I.un (Un.write d c k a) (I.hok.write d c k a new)
theorem Inv.weak{a:List (Option V)}(I:Inv X pins σ H s)(hl:a.length=σ.length)(w:∀(i:Nat) v,a[i]?=some (some v)->σ[i]?=some (some v)):Inv X pins a H s:=
 ⟨I.ok,I.os,I.bare,I.base,let ⟨m,hn,hl'⟩:=I.loc;⟨m,hn,λi x v b c d=>hl' i x v b (w i v c) d⟩,I.cell,I.free,I.freeC,I.pin,I.hok,hl.trans I.len⟩
theorem Inv.pins_of{pins':List (Addr×Obj)}(I:Inv X pins σ H s)(h:∀ p∈pins',s.heap.get? p.1=some p.2/\H p.1=none/\p.1≠X.env.locals/\p.1∉X.fs/\∀ v,p.2.data≠.cell v):Inv X pins' σ H s:=
 ⟨I.ok,I.os,I.bare,I.base,I.loc,I.cell,I.free,I.freeC,λp a=>(Yj.mp a).elim (λz=>I.pin p (YO _ z)) (h p),I.hok,I.len⟩
theorem qaG(e:N.Nodup)(a:N[i]?=some x)(b:N[j]?=some x):i=j:=by
 obtain⟨h1,c⟩:=yc.mp a;obtain⟨f,d⟩:=yc.mp b;show(List.getElem_inj e).mp (c.trans d.symm)
theorem qcu{Q:Unit->Shared->Prop}(I:Inv X pins σ H s)(hN:X.N.Nodup)(O:X.N[i]?=some x)(t:Loc X.env.scope x)(r:RelV v u)
  (h:∀ s',Inv X pins (σ.set i (some v)) H s'->(∃ a,Heap.SameBut a s.heap s'.heap/\(a=X.env.locals\/X.env.cells.lookup x=some a))->Q () s') (hf:X.fn x=true\/X.env.scope.names.lookup x=some .local:=by first | show .inl rfl | show .inr rfl | assumption):wpAny M A (storeName X.env x u) Q E s:=by
 obtain⟨m,Y,hl⟩:=id I.loc;have L:(X.env.scope.kind==.class||(X.env.scope.kind==.module&&X.env.locals != X.env.globals))=false:=by rw[I.ok.kind];rfl
 have D:i<σ.length:=by rw[I.len];show(yc.mp O).1
 have cne:=I.cne
 have l:∀{a:Addr} {h':Heap},(∃ o,s.heap.get? a=some o/\H a=none)->Heap.SameBut a s.heap h'->HOk X.prog X.w H h':=λ{a h'} ha f b ob e=>by
  obtain⟨_,_,B⟩:=ha;show(I.hok b ob e).stay (λc U hc q=>(f.2 c ?_).trans q) (λ_ q=>q) λ_ _ q=>q;rintro rfl;rcases hc with rfl | hc
  .rw [B] at e;cases e
  .rw [B] at hc;cases hc
 rcases t with hk | hk
 .show wpAny_storeName_local hk Y (λh' Z f=>?_) L;obtain⟨oL,_,_,aa,_⟩:=id Y;show h _ ⟨I.ok,I.os,I.bare,⟨λb o e n hb t=>?_,λb o e n hb t=>?_,I.base.free,λb o e t=>?_,I.base.tups,I.base.frzs,I.base.tbls⟩,⟨_,Z,λj y v' g C W=>?_⟩,λy c e=>?_,I.free,I.freeC,λp hp=>?_,l ⟨oL,aa,I.free⟩ f,by simpa using I.len⟩ ⟨_,f,.inl rfl⟩
  .show(f.2 b (yG (yi (yy e) I.ok.above))).trans (I.base.keep b o e n hb t)
  .obtain⟨sl,g⟩:=I.base.slot b o e n hb t;show⟨sl,(f.2 b (yG (yi (yy e) I.ok.above))).trans g⟩
  .obtain⟨o',g⟩:=I.base.there b o e t;show⟨o',(f.2 b (yG (yi (yy e) I.ok.above))).trans g⟩
  .by_cases G:j=i
   .subst G;rw[O] at g;cases g;rw[xE D] at C;cases C;show⟨u,r,.inl ⟨hk,by simp⟩⟩
   .rw [xM (YW G)] at C;obtain⟨u',r',q⟩:=hl j y v' g C W;show⟨u',r',?_⟩;rcases q with⟨k,e⟩ | ⟨k,c,e,z⟩
    .show .inl ⟨k,?_⟩;have:y≠x:=λe=>G (qaG hN g (e ▸ O));simp[this,e]
    .show .inr ⟨k,c,e,z.sameBut f (cne y c e)⟩
  .obtain⟨U,z⟩:=I.cell y c e;show⟨U,z.sameBut f (cne y c e)⟩
  .obtain⟨e,n,T,nf,d⟩:=I.pin p hp;show⟨(f.2 p.1 T).trans e,n,T,nf,d⟩
 .have F:X.fn x=true:=by
   rcases hf with z | z
   .show z
   .rw [z] at hk;cases hk
  obtain⟨c,hc⟩:=I.ok.has x (.inl hk);obtain⟨U,z⟩:=I.cell x c hc;show wpAny_storeName_cell I.ok.kind hk hc z (λh' J f=>?_);obtain⟨oc,P,R⟩:=id z;show h { s with heap:=h' } ⟨I.ok,I.os,I.bare,⟨λb o e n hb t=>?_,λb o e n hb t=>?_,I.base.free,λb o e t=>?_,I.base.tups,I.base.frzs,I.base.tbls⟩,⟨m,Y.sameBut f (YW (cne x c hc)),λj y v' g C W=>?_⟩,λy S e=>?_,I.free,I.freeC,λp hp=>?_,l ⟨oc,P,I.freeC x c hc⟩ f,by simpa using I.len⟩ ⟨c,f,.inr hc⟩
  .show(f.2 b (yG (yi (yy e) (I.ok.cab x c F hc)))).trans (I.base.keep b o e n hb t)
  .obtain⟨sl,g⟩:=I.base.slot b o e n hb t;show⟨sl,(f.2 b (yG (yi (yy e) (I.ok.cab x c F hc)))).trans g⟩
  .obtain⟨o',g⟩:=I.base.there b o e t;show⟨o',(f.2 b (yG (yi (yy e) (I.ok.cab x c F hc)))).trans g⟩
  .by_cases G:j=i
   .subst G;rw[O] at g;cases g;rw[xE D] at C;cases C;show⟨u,r,.inr ⟨.inl hk,c,hc,J⟩⟩
   .rw [xM (YW G)] at C;obtain⟨u',r',q⟩:=hl j y v' g C W;show⟨u',r',?_⟩;rcases q with q | ⟨k,S,e,z'⟩
    .show .inl q
    .show .inr ⟨k,S,e,z'.sameBut f ?_⟩;rintro rfl;show G (qaG hN g (I.ok.inj _ _ _ e hc ▸ O))
  .by_cases K:S=c
   .subst K;show⟨_,J⟩
   .obtain⟨w2,z2⟩:=I.cell y S e;show⟨w2,z2.sameBut f K⟩
  .obtain⟨e,n,T,nf,d⟩:=I.pin p hp;show⟨(f.2 p.1 ?_).trans e,n,T,nf,d⟩;intro q;rw[q,P] at e;have q':oc=p.2:=yl e;show d U (by rw[<- q'];show R)
theorem qbl{Q:Unit->Shared->Prop}(I:Inv X pins σ H s)(b:X.N.Nodup)(d:X.N[i]?=some x)(e:Loc X.env.scope x)(r:RelV v u)
  (h:∀ s',Inv X pins (σ.set i (some v)) H s'->Q () s') (c:X.fn x=true\/X.env.scope.names.lookup x=some .local:=by first | show .inl rfl | show .inr rfl | assumption):wpAny M A (storeName X.env x u) Q E s:=
 qcu I b d e r (λs' a _=>h s' a) c
theorem Inv.call'(I:Inv X pins σ H s)(g:s'.os=s.os)(u:Un (frs X.stack) ch H H' s.heap s'.heap)(d:HOk X.prog X.w H' s'.heap)(f:AllBare s'.gens)
  (a:∀ b∈ch,(b∈X.ex\/X.s₀.heap.objs.size<=b)/\b≠X.env.locals/\(∀ x c,X.env.cells.lookup x=some c->c≠b)/\∀ p∈X.pn++pins,p.1≠b):Inv X pins σ H' s':=by
 obtain⟨h',g',d',t',h⟩:=s';have e:h=s.os:=g;subst e;show I.call (g':=g') (t':=t') (d':=d') u d f a
end
abbrev XK:=Value->Option Addr->Hp->Prop
abbrev St:=List (Option V)
abbrev VK:=V->Hp->Prop
abbrev TE:=St->Hp->VK->Prop
abbrev TT:=St->Hp->(Bool->Hp->Prop)->Prop
abbrev TA:=St->Hp->(List V->Hp->Prop)->Prop
structure Ends where
 nx:St->Hp->Prop
 rt:VK
 bk:St->Hp->Prop:=λ_ _=>False
 ct:St->Hp->Prop:=λ_ _=>False
abbrev TS:=Ends->St->Hp->Prop
def EP(X:Cx)(pins:List (Addr×Obj))(σ:St)(Q:VK)(u:Value)(s':Shared):Prop:=∃ v H',Inv X pins σ H' s'/\RelV v u/\Q v H'
def TP(X:Cx)(pins:List (Addr×Obj))(σ:St)(Q:Bool->Hp->Prop)(b:Bool)(s':Shared):Prop:=∃ H',Inv X pins σ H' s'/\Q b H'
def AP(X:Cx)(pins:List (Addr×Obj))(σ:St)(Q:List V->Hp->Prop)(us:List Value)(s':Shared):Prop:=∃ vs H',Inv X pins σ H' s'/\Vals vs us/\Q vs H'
def SP(X:Cx)(pins:List (Addr×Obj))(D:Ends)(f:Flow)(s':Shared):Prop:=
 match f with
 | .next=>∃ a H',Inv X pins a H' s'/\D.nx a H'
 | .brk=>∃ a H',Inv X pins a H' s'/\D.bk a H'
 | .cont=>∃ a H',Inv X pins a H' s'/\D.ct a H'
 | .ret u=>∃ v a H',Inv X pins a H' s'/\RelV v u/\D.rt v H'
def PE(X:Cx)(e:Expr)(t:TE):Prop:=
 ∀(pins:List (Addr×Obj)) (s:Shared) (σ:St) (H:Hp) (Q:VK),Inv X pins σ H s->t σ H Q->wpAny (model X.prog X.w) X.A (eval e X.env) (EP X pins σ Q) X.xe s
def PT(X:Cx)(e:Expr)(t:TT):Prop:=
 ∀(pins:List (Addr×Obj)) (s:Shared) (σ:St) (H:Hp) (Q:Bool->Hp->Prop),Inv X pins σ H s->t σ H Q->wpAny (model X.prog X.w) X.A (isTrue e X.env (eval e X.env)) (TP X pins σ Q) X.xe s
def PW(X:Cx)(e:Expr)(t:TT):Prop:=
 ∀(whole:Sem Value) (pins:List (Addr×Obj)) (s:Shared) (σ:St) (H:Hp) (Q:Bool->Hp->Prop),Inv X pins σ H s->t σ H Q->wpAny (model X.prog X.w) X.A (isTrue e X.env whole) (TP X pins σ Q) X.xe s
theorem PW.pt{t:TT}(h:PW X e t):PT X e t:=h _
def PA(X:Cx)(es:List Expr)(t:TA):Prop:=
 ∀(pos:Pos) (pins:List (Addr×Obj)) (s:Shared) (σ:St) (H:Hp) (Q:List V->Hp->Prop),Inv X pins σ H s->t σ H Q->wpAny (model X.prog X.w) X.A (spliced (backTo pos (starEach es X.env))) (AP X pins σ Q) X.xe s
def PS(X:Cx)(st:Stmt)(t:TS):Prop:=
 ∀(pins:List (Addr×Obj)) (s:Shared) (σ:St) (H:Hp) (D:Ends),Inv X pins σ H s->t D σ H->wpAny (model X.prog X.w) X.A (exec st X.env) (SP X pins D) X.xe s
def PSs(X:Cx)(st:List Stmt)(t:TS):Prop:=
 ∀(pins:List (Addr×Obj)) (s:Shared) (σ:St) (H:Hp) (D:Ends),Inv X pins σ H s->t D σ H->wpAny (model X.prog X.w) X.A (execs st X.env) (SP X pins D) X.xe s
theorem thn{t:Sem α}{Q b:α->Shared->Prop}(h:wpAny M A t Q E s)(c:∀ a s,Q a s->b a s):wpAny M A t b E s:=Yd h c λ_ _ x=>x
section
variable{X:Cx}
def qfc(i:Nat):TE:=fun σ H Q=>∃ v,σ[i]?=some (some v)/\Q v H
def tC(v:V):TE:=λ_ H Q=>Q v H
theorem qfo(g:X.N[i]?=some x)(hv:Vis X.env.scope x)(f:(x==("__debug__":Str))=false:=by decide)(d:(x==("__classdict__":Str))=false:=by decide):PE X (.Name x pos) (qfc i):=by
 intro pins s σ H Q I h;obtain⟨v,e,h⟩:=h;obtain⟨m,n,hl⟩:=I.loc;obtain⟨u,r,l⟩:=hl i x v g e hv;have b:EP X pins σ Q u s:=⟨v,H,I,r,h⟩;rcases l with⟨hk,j⟩ | ⟨hk,c,hc,a⟩
 .show wpAny_Name (wpAny_loadName_local I.ok.kind hk n j b) f
 .rcases hk with hk | hk
  .show wpAny_Name (wpAny_loadName_cell I.ok.kind hk hc a b) f
  .show wpAny_Name (wpAny_loadName_free I.ok.kind hk hc a b d) f
theorem qg{i j pos}:PE X (.Constant (.int i) j pos) (tC (.int i)):=λ_ _ _ H _ I h=>wpAny_Constant_int ⟨.int i,H,I.tok _,⟨_,rfl⟩,h⟩
theorem qcv{b j pos}:PE X (.Constant (.bool b) j pos) (tC (.bl b)):=λ_ _ _ H _ I h=>Constant_bool ⟨.bl b,H,I,rfl,h⟩
theorem qek{j pos}:PE X (.Constant .none j pos) (tC .non):=λ_ _ _ H _ I h=>Constant_none ⟨.non,H,I,rfl,h⟩
theorem jN{x j pos}:PE X (.Constant (.str x) j pos) (tC (.str x)):=λ_ _ _ H _ I h=>Calls.Constant_str ⟨.str x,H,I.tok _,⟨_,rfl⟩,h⟩
def Gl(X:Cx)(x:Str):Prop:=X.env.kindOf x=some .globalImplicit
theorem zm{Q:Value->Shared->Prop}(I:Inv X pins σ H s)(b:Gl X x)(c:X.mg x=some u)(h:Q u s)
  (a:(x==("__debug__":Str))=false:=by decide):wpAny (model X.prog X.w) X.A (eval (.Name x pos) X.env) Q E s:=
 Calls.Name_function_global I.ok.kind b (Calls.loadGlobal_global (by rw[I.ok.glob];show I.mod.glob.keeps I.bk) c h) a
theorem qcw{Q:Value->Shared->Prop}(I:Inv X pins σ H s)(c:Gl X x)(d:X.mg x=none)(hv:bootBuiltins x=some u)(h:Q u s)
  (e:x≠"__name__":=by decide) (b:(x==("__debug__":Str))=false:=by decide):wpAny (model X.prog X.w) X.A (eval (.Name x pos) X.env) Q E s:=by
 obtain⟨f,h1,a⟩:=I.mod.blt;show Calls.Name_function_global I.ok.kind c (Calls.loadGlobal_builtin (by rw[I.ok.glob];show I.mod.glob.keeps I.bk) d (by rw[I.ok.blt];show h1.keeps I.bk) ((a x e).trans hv) h) b
theorem zv(b:Gl X x)(c:X.mg x=some u)(r:RelV v u)(a:(x==("__debug__":Str))=false:=by decide):PE X (.Name x pos) (tC v):=
 λ_ _ _ H _ I h=>zm I b c ⟨v,H,I,r,h⟩ a
theorem jz(b:Gl X x)(c:X.mg x=none)(hv:bootBuiltins x=some u)(r:RelV v u)(d:x≠"__name__":=by decide)(a:(x==("__debug__":Str))=false:=by decide):PE X (.Name x pos) (tC v):=
 λ_ _ _ H _ I h=>qcw I b c hv ⟨v,H,I,r,h⟩ d a
variable{a b:Expr}{ta tb:TE}{pos:Pos}
def tB(t:TE):TT:=fun σ H Q=>t σ H λx a=>∃ c,x=.bl c/\Q c a
theorem jg(h:PE X e t)(c:∀ whole,isTrue e X.env whole=(do let v <- whole;standAt e.pos;holding [v] (truthy v)):=by intro _;rfl):PT X e (tB t):=by
 intro pins s σ H Q I hw;show isTrue_plain (thn (h pins s σ H _ I hw) λv i ⟨x,a,b,g,f⟩=>?_) (c _);obtain⟨d,rfl,q⟩:=f;cases g;show Yy ⟨a,b,q⟩
variable{tA tB':TT}{rest:List Expr}
def qhs(t u:TT):TT:=fun σ H Q=>t σ H λc a=>if c=true then u σ a Q else Q false a
def tOr(t u:TT):TT:=fun σ H Q=>t σ H λc a=>if c=true then Q true a else u σ a Q
def qht(t:TT):TT:=fun σ H Q=>t σ H λc a=>Q (!c) a
theorem qda(b:PT X a tA):PW X (.BoolOp .And [a] pos) tA:=by
 intro f pins s σ H Q I h;show isTrue_and (thn (b pins s σ H Q I h) λc d e=>?_)
 cases c with
 | true=>show isTrue_and_nil e
 | false=>show e
theorem qcx(b:PT X a tA):PW X (.BoolOp .Or [a] pos) tA:=by
 intro f pins s σ H Q I h;show isTrue_or (thn (b pins s σ H Q I h) λc d e=>?_)
 cases c with
 | false=>show isTrue_or_nil e
 | true=>show e
theorem qel(g:PT X a tA)(hb:PW X (.BoolOp .And (b::rest) pos) tB'):PW X (.BoolOp .And (a::b::rest) pos) (qhs tA tB'):=by
 intro j pins s σ H Q I h;show isTrue_and (thn (g pins s σ H _ I h) λc i ⟨d,e,f⟩=>?_)
 cases c with
 | true=>show hb j pins i σ d Q e f
 | false=>show⟨d,e,f⟩
theorem qem(g:PT X a tA)(hb:PW X (.BoolOp .Or (b::rest) pos) tB'):PW X (.BoolOp .Or (a::b::rest) pos) (tOr tA tB'):=by
 intro j pins s σ H Q I h;show isTrue_or (thn (g pins s σ H _ I h) λc i ⟨d,e,f⟩=>?_)
 cases c with
 | true=>show⟨d,e,f⟩
 | false=>show hb j pins i σ d Q e f
theorem jQ(d:PT X a tA):PT X (.UnaryOp .Not a pos) (qht tA):=by
 intro pins s σ H Q I h;show isTrue_not (d pins s σ H (λc b=>Q (!c) b) I h)
def qgk(ta tb:TE):TE:=fun σ H Q=>ta σ H λx a=>∃ c,x=.bl c/\if c=true then tb σ a Q else Q (.bl false) a
def qhu(ta tb:TE):TE:=fun σ H Q=>ta σ H λx a=>∃ c,x=.bl c/\if c=true then Q (.bl true) a else tb σ a Q
def qgl(ta:TE):TE:=fun σ H Q=>ta σ H λx a=>∃ c,x=.bl c/\Q (.bl (!c)) a
theorem qbX{op}(h:PE X a t):PE X (.BoolOp op [a] pos) t:=λpins s σ H Q I hw=>BoolOp_one (h pins s σ H Q I hw)
theorem qcy(g:PE X a ta)(hb:PE X (.BoolOp .And (b::rest) pos) tb):PE X (.BoolOp .And (a::b::rest) pos) (qgk ta tb):=by
 intro pins s σ H Q I h;show BoolOp_and (thn (g pins s σ H _ I h) λv j ⟨x,e,f,i,d⟩=>?_);obtain⟨c,rfl,d⟩:=d;cases i;show Yy ?_
 cases c with
 | true=>show hb pins j σ e Q f d
 | false=>show⟨.bl false,e,f,rfl,d⟩
theorem pe_or(g:PE X a ta)(hb:PE X (.BoolOp .Or (b::rest) pos) tb):PE X (.BoolOp .Or (a::b::rest) pos) (qhu ta tb):=by
 intro pins s σ H Q I h;show BoolOp_or (thn (g pins s σ H _ I h) λv j ⟨x,e,f,i,d⟩=>?_);obtain⟨c,rfl,d⟩:=d;cases i;show Yy ?_
 cases c with
 | false=>show hb pins j σ e Q f d
 | true=>show⟨.bl true,e,f,rfl,d⟩
theorem pe_not(f:PE X a ta):PE X (.UnaryOp .Not a pos) (qgl ta):=by
 intro pins s σ H Q I h;show UnaryOp_ (thn (f pins s σ H _ I h) λv i ⟨x,d,e,g,b⟩=>?_);obtain⟨c,rfl,b⟩:=b;cases g;show not_of (Yy ⟨.bl (!c),d,e,rfl,b⟩)
def tIf(t:TT)(ta tb:TE):TE:=fun σ H Q=>t σ H λc a=>if c=true then ta σ a Q else tb σ a Q
theorem pe_ifExp(hc:PT X c tA)(j:PE X a ta)(hb:PE X b tb):PE X (.IfExp c a b pos) (tIf tA ta tb):=by
 intro pins s σ H Q I h;show wpAny_IfExp (thn (hc pins s σ H _ I h) λd i ⟨e,f,g⟩=>?_)
 cases d with
 | true=>show j pins i σ e Q f g
 | false=>show hb pins i σ e Q f g
end
def SqL(K:yf)(H:Hp)(a:Addr)(xs:List V):Prop:=
 Rd H a (.lst xs) \/
  ∃(o:Obj) (b:Array Value) (n:Nat),K.lookup a=some o/\o.cls=.type "list"/\o.dict=none/\o.data=.seq b n/\b.size<=sizeLine/\Vals xs b.toList
def SqT(K:yf)(H:Hp)(a:Addr)(xs:List V):Prop:=
 Rd H a (.tup xs) \/
  ∃(o:Obj) (b:Array Value) (n:Nat),K.lookup a=some o/\o.cls=.type "tuple"/\o.data=.seq b n/\b.size<=sizeLine/\Vals xs b.toList
def absV:Value->Option V
 | .none=>some .non
 | .bool b=>some (.bl b)
 | .int i _=>some (.int i)
 | .str x _=>some (.str x)
 | .bytes b _=>some (.byt b)
 | .float b _=>some (.flt b)
 | .ref a=>some (.ref a)
 | .type n=>some (.ty n)
 | _=>none
theorem RelV.abs{x:V}(r:RelV x u):absV u=some x:=by
 cases x with
 | non=>cases r;rfl
 | bl _=>cases r;rfl
 | int _=>obtain⟨t,rfl⟩:=r;rfl
 | str _=>obtain⟨t,rfl⟩:=r;rfl
 | byt _=>obtain⟨t,rfl⟩:=r;rfl
 | flt _=>obtain⟨t,rfl⟩:=r;rfl
 | ref _=>cases r;rfl
 | ty _=>cases r;rfl
theorem RelV.inj{x:V}(r:RelV x u)(q:RelV y u):x=y:=yl (r.abs.symm.trans q.abs)
theorem Vals.inj:∀{xs ys:List V} {us:List Value},Vals xs us->Vals ys us->xs=ys
 | _,_,_,.nil,.nil=>rfl
 | _,_,_,.cons r t,.cons r' t'=>by rw[r.inj r',Vals.inj t t']
section
variable{X:Cx}{pins:List (Addr×Obj)}{σ:St}{H:Hp}{s:Shared}{a:Addr}{xs ys:List V}
theorem SqL.of{K:yf}(h:H a=some (.lst xs)):SqL K H a xs:=.inl (.inl h)
theorem SqT.of{K:yf}(h:H a=some (.tup xs)):SqT K H a xs:=.inl (.inl h)
theorem Inv.list(I:Inv X pins σ H s)(h:SqL X.K H a xs):∃ b:List Value,Vals xs b/\PlainL s.heap a b.toArray/\xs.length<=sizeLine:=by
 rcases h with h | ⟨o,b,n,hk,hc,hd,hs,hz,r⟩
 .obtain⟨z,b,n,r,e⟩:=h.ok I.hok;show⟨b,r,⟨_,n,e,rfl,rfl,rfl⟩,z⟩
 .show⟨b.toList,r,⟨o,n,I.kIn a o hk,hc,hd,by simpa using hs⟩,?_⟩;have e:=r.length;simp only[xy] at e;lk
theorem Inv.tuple(I:Inv X pins σ H s)(h:SqT X.K H a xs):∃ b:List Value,Vals xs b/\IsTup s.heap a b.toArray/\xs.length<=sizeLine:=by
 rcases h with h | ⟨o,b,n,hk,hc,hs,hz,r⟩
 .obtain⟨z,b,r,p⟩:=h.ok I.hok;show⟨b,r,p,z⟩
 .show⟨b.toList,r,⟨o,I.kIn a o hk,hc,n,by simpa using hs⟩,?_⟩;have e:=r.length;simp only[xy] at e;lk
theorem Inv.list_inj(I:Inv X pins σ H s)(h:SqL X.K H a xs)(h':SqL X.K H a ys):xs=ys:=by
 obtain⟨b,r,⟨o,n,e,_,_,d⟩,_⟩:=I.list h;obtain⟨its',r',⟨g,f,c,_,_,d'⟩,_⟩:=I.list h';rw[e] at c;cases c;rw[d] at d'
 injection d' with d1 _
 have:b=its':=by simpa using congrArg Array.toList d1
 subst this;show r.inj r'
theorem Inv.tuple_inj(I:Inv X pins σ H s)(h:SqT X.K H a xs)(h':SqT X.K H a ys):xs=ys:=by
 obtain⟨b,r,⟨o,e,_,n,d⟩,_⟩:=I.tuple h;obtain⟨its',r',⟨g,c,_,f,d'⟩,_⟩:=I.tuple h';rw[e] at c;cases c;rw[d] at d'
 injection d' with d1 _
 have:b=its':=by simpa using congrArg Array.toList d1
 subst this;show r.inj r'
end
abbrev Cx.wish(X:Cx)(E:Value->Shared->Prop):Cx:={ X with xe:=E }
abbrev Cx.nox(X:Cx):Cx:=X.wish λ_ _=>False
theorem Cx.Ok.wish(ok:X.Ok)(E:Value->Shared->Prop):(X.wish E).Ok:=
 ⟨ok.mod,ok.kind,ok.glob,ok.blt,ok.above,ok.inj,ok.has,ok.cab,ok.hd,ok.frames,ok.stk,ok.exf,ok.bs,ok.bsz,ok.noex,ok.exfs,ok.funs,ok.frf⟩
theorem Cx.Ok.unwish(ok:(X.wish E).Ok):X.Ok:=
 ⟨ok.mod,ok.kind,ok.glob,ok.blt,ok.above,ok.inj,ok.has,ok.cab,ok.hd,ok.frames,ok.stk,ok.exf,ok.bs,ok.bsz,ok.noex,ok.exfs,ok.funs,ok.frf⟩
section
variable{X:Cx}{pins:List (Addr×Obj)}{σ:St}{H:Hp}{s:Shared}{E:Value->Shared->Prop}
theorem Inv.wish(I:Inv X pins σ H s)(E:Value->Shared->Prop):Inv (X.wish E) pins σ H s:=⟨I.ok.wish E,I.os,I.bare,I.base,I.loc,I.cell,I.free,I.freeC,I.pin,I.hok,I.len⟩
theorem Inv.unwish(I:Inv (X.wish E) pins σ H s):Inv X pins σ H s:=⟨I.ok.unwish,I.os,I.bare,I.base,I.loc,I.cell,I.free,I.freeC,I.pin,I.hok,I.len⟩
theorem SP.unwish{f:Flow}(h:SP (X.wish E) pins D f s'):SP X pins D f s':=by
 cases f with
 | next=>obtain⟨a,H',I,q⟩:=h;show⟨a,H',I.unwish,q⟩
 | brk=>obtain⟨a,H',I,q⟩:=h;show⟨a,H',I.unwish,q⟩
 | cont=>obtain⟨a,H',I,q⟩:=h;show⟨a,H',I.unwish,q⟩
 | ret u=>obtain⟨v,a,H',I,r,q⟩:=h;show⟨v,a,H',I.unwish,r,q⟩
theorem PSs.nox{st:List Stmt}{t:TS}(h:PSs X.nox st t):PSs X st t:=λpins s σ H D I hw =>
 Yd (h pins s σ H D (I.wish _) hw) (λ_ _ q=>q.unwish) λ_ _ z=>False.elim z
end
section
variable{X:Cx}{st:Stmt}{rest:List Stmt}{t u:TS}{e:Expr}{te:TE}{pos:Pos}
def qfW:TS:=λD σ H=>D.nx σ H
def qg7(t u:TS):TS:=λD σ H=>t { D with nx:=u D } σ H
theorem qu:PSs X [] qfW:=λ_ _ σ H _ I h=>XH ⟨σ,H,I,h⟩
theorem qe(h1:PS X st t)(c:PSs X rest u):PSs X (st::rest) (qg7 t u):=by
 intro pins s σ H D I h;show xP (thn (h1 pins s σ H { D with nx:=u D } I h) λf d q=>?_)
 cases f with
 | next =>
  obtain⟨a,H',b,q⟩:=q;show c pins d a H' D b q
 | ret v=>show q
 | brk=>show q
 | cont=>show q
theorem qf(h1:PS X st t):PSs X [st] t:=by
 intro pins s σ H D I h;show xP (thn (h1 pins s σ H D I h) λf a q=>?_)
 cases f with
 | next=>show XH q
 | ret v=>show q
 | brk=>show q
 | cont=>show q
theorem Inv.quiet(I:Inv X pins σ H s):interactive X.env=false:=by simp[interactive,I.ok.kind]
def qgm(te:TE):TS:=λD σ H=>te σ H λ_ a=>D.nx σ a
theorem qB(c:PE X e te)(d:swapsWith e none pos.line X.env=pure false:=by rfl):PS X (.Expr e pos) (qgm te):=by
 intro pins s σ H D I h;show wpAny_Expr_any (thn (c pins s σ H _ I h) λv i ⟨x,a,b,g,f⟩=>⟨σ,a,b,f⟩) I.quiet d
def qg8(te:TE):TS:=λD σ H=>te σ H D.rt
theorem qm(c:PE X e te):PS X (.Return (some e) pos) (qg8 te):=by
 intro pins s σ H D I h;show wpAny_Return_some (thn (c pins s σ H _ I h) λv g ⟨x,a,b,f,d⟩=>⟨x,σ,a,b,f,d⟩)
def tRetN:TS:=λD _ H=>D.rt .non H
def qgn(c:TT)(t u:TS):TS:=λD σ H=>c σ H λb a=>if b=true then t D σ a else u D σ a
theorem jf{a b:List Stmt}{j:TT}(hc:PT X c j)(l:PSs X a t)(hb:PSs X b u):PS X (.If c a b pos) (qgn j t u):=by
 intro pins s σ H D I h;show wpAny_If (thn (hc pins s σ H _ I h) λd i ⟨e,f,g⟩=>?_)
 cases d with
 | true=>show l pins i σ e D f g
 | false=>show hb pins i σ e D f g
def tNever:TS:=λ_ _ _=>False
theorem qdA:PS X st tNever:=λ_ _ _ _ _ _ h=>h.elim
end
abbrev TG:=V->St->Hp->(St->Hp->Prop)->Prop
abbrev TGs:=List V->St->Hp->(St->Hp->Prop)->Prop
def PG(X:Cx)(a:Expr)(t:TG):Prop:=
 ∀(pins:List (Addr×Obj)) (s:Shared) (σ:St) (H:Hp) (v:V) (u:Value) (Q:St->Hp->Prop),Inv X pins σ H s->RelV v u->t v σ H Q ->
  wpAny (model X.prog X.w) X.A (assign a X.env u) (λ_ s'=>∃ b H',Inv X pins b H' s'/\Q b H') X.xe s
def PGs(X:Cx)(b:List Expr)(t:TGs):Prop:=
 ∀(pins:List (Addr×Obj)) (s:Shared) (σ:St) (H:Hp) (vs:List V) (us:List Value) (Q:St->Hp->Prop),Inv X pins σ H s->Vals vs us->t vs σ H Q ->
  wpAny (model X.prog X.w) X.A (assignInOrder ((assignEach b X.env).map (·.2)) us) (λ_ s'=>∃ a H',Inv X pins a H' s'/\Q a H') X.xe s
abbrev qgo:=V->V->V->Hp->(Hp->Prop)->Prop
def qg9(X:Cx)(t:qgo):Prop:=
 ∀(pins:List (Addr×Obj)) (s:Shared) (σ:St) (H:Hp) (o i v:V) (b a u:Value) (Q:Hp->Prop),Inv X pins σ H s->RelV o b->RelV i a->RelV v u->t o i v H Q ->
  wpAny (model X.prog X.w) X.A (setItem b a u) (λ_ s'=>∃ H',Inv X pins σ H' s'/\Q H') X.xe s
section
variable{X:Cx}{pos:Pos}
def qdb(i:Nat):TG:=λv σ H Q=>Q (σ.set i (some v)) H
theorem qr(b:X.N.Nodup)(d:X.N[i]?=some x)(e:Loc X.env.scope x)(c:X.fn x=true\/X.env.scope.names.lookup x=some .local:=by first | show .inl rfl | show .inr rfl | assumption):PG X (.Name x pos) (qdb i):=by
 intro pins s σ H v u Q I r h;show wpAny_assign_Name (qbl I b d e r (λs' a=>⟨_,H,a,h⟩) c)
def gNil:TGs:=λvs σ H Q=>vs=[]/\Q σ H
def gCons(t:TG)(u:TGs):TGs:=λvs σ H Q=>∃ v r,vs=v::r/\t v σ H λa H'=>u r a H' Q
theorem qca:PGs X [] gNil:=by
 intro pins s σ H vs us Q I r h;obtain⟨e,h⟩:=h;subst e;cases r;show assignInOrder_nil ⟨σ,H,I,h⟩
theorem qP{t:TG}{u:TGs}(h1:PG X e t)(f:PGs X es u)
  (g:(assignEach (e::es) X.env).map (·.2)=assign e X.env::(assignEach es X.env).map (·.2):=by rfl):PGs X (e::es) (gCons t u):=by
 intro pins s σ H vs us Q I r h;obtain⟨v,l,d,h⟩:=h;subst d
 cases r with
 | cons r rr =>
  rw[g];show assignInOrder_cons (thn (h1 pins s σ H _ _ _ I r h) λ_ j ⟨a,b,c,i⟩=>?_);show f pins j a b _ _ Q c rr i
def qha(K:yf)(n:Nat)(t:TGs):TG:=λv σ H Q=>∃ a xs,v=.ref a/\SqT K H a xs/\xs.length=n/\t xs σ H Q
theorem qfp{k:Nat}{t:TGs}(hc:X.calm=true)(h:PGs X es t)
  (i:(assignEach es X.env).length=n:=by rfl) (c:(assignEach es X.env).findIdx? (·.1)=none:=by rfl):PG X (.Tuple es k pos) (qha X.K n t):=by
 intro pins s σ H v u Q I r hw;obtain⟨a,xs,g,j,hl,hw⟩:=hw;subst g;cases r;obtain⟨p,d,l,q⟩:=I.tuple j;show assign_Tuple_tuple (I.ok.hd hc) l (by simp[i,<- hl,d.length]) c λh' m=>?_;have f:Inv X pins σ H { s with heap:=h' }:=I.kept (t':=s.toks) λb o e=>m b o (yG (yy e)) e;show h pins _ σ H xs _ Q f (by simpa using d) hw
def qhv(d ti:TE)(t:qgo):TG:=λv σ H Q=>d σ H λo a=>ti σ a λi b=>t o i v b λc=>Q σ c
theorem qdB{o i:Expr}{c ti:TE}{t:qgo}(p:PE X o c)(n:PE X i ti)(q:qg9 X t)
  (m:∀ v,assign (.Subscript o i pos) X.env v=(do
   let a <- holding [v] (eval o X.env);let b <- holding [v,a] (eval i X.env)
   standAt pos
   holding [v,a,b] (setItem a b v)
   release [v,a,b] []):=by intro _;rfl):PG X (.Subscript o i pos) (qhv c ti t):=by
 intro pins s σ H v u Q I r h;rw[m];show yp (Yk (thn (p pins s σ H _ I h) λa D ⟨x,d,g,B,w⟩=>?_));show yp (Yk (thn (n pins D σ d _ g w) λb E ⟨y,e,j,C,z⟩=>?_));show yp (xG (yp (Yk (thn (q pins E σ e x y v a b u _ j B C r z) λ_ F ⟨f,l,A⟩=>?_))));show wpAny_release ⟨σ,f,l,A⟩
def qfX(te:TE)(g:TG):TS:=λD σ H=>te σ H λx a=>g x σ a D.nx
theorem qbi(c:PE X e te)(d:PG X tg g)(f:swapsWithSole [tg] e pos.line X.env=pure false:=by rfl)(hw:swappedStores [tg] e X.env=pure none:=by rfl)
  (h1:(assignEach [tg] X.env).map (·.2)=[assign tg X.env]:=by rfl):PS X (.Assign [tg] e pos) (qfX te g):=by
 intro pins s σ H D I h;show wpAny_Assign_stores (thn (c pins s σ H _ I h) λv l ⟨x,a,b,j,i⟩=>?_) f hw;rw[h1];show thn (d pins l σ a x v _ b j i) λ_ m q=>q
theorem qx{a:Pos}(f:X.N.Nodup)(l:X.N[i]?=some x)(n:Loc X.env.scope x)(g:PE X e te)(m:swapsWith e (some (.Name x a)) pos.line X.env=pure false:=by rfl)(j:X.fn x=true\/X.env.scope.names.lookup x=some .local:=by first | show .inl rfl | show .inr rfl | assumption) :
  PS X (.Assign [.Name x a] e pos) (qfX te (qdb i)):=by
 intro pins s σ H D I h;show wpAny_Assign_Name (thn (g pins s σ H _ I h) λv q ⟨y,b,c,p,o⟩=>?_) m;show qbl c f l n p (λr d=>⟨_,b,d,o⟩) j
end
section
variable{X:Cx}{pos:Pos}
end
structure It where
 go:Nat->Hp->Prop
 yld:Nat->Hp->V->Hp->Prop
 stop:Nat->Hp->Prop
def qeh(X:Cx)(pins:List (Addr×Obj))(H:Hp)(b:Addr):Prop:=
 H b=none/\b≠X.env.locals/\b∉X.fs/\(b∈X.ex\/X.s₀.heap.objs.size<=b)/\(∀ x c,X.env.cells.lookup x=some c->c≠b)/\∀ p∈X.pn++pins,p.1≠b
theorem Inv.fpOk{H':Hp}(I:Inv X pins σ H s)(hb:s.heap.objs.size<=b)(a:H' b=none):qeh X pins H' b:=by
 show⟨a,Xe (yi I.lt hb),I.nofs hb,.inr (yh I.sz hb),λx c e z=>?_,λp d z=>?_⟩
 .obtain⟨v,q⟩:=I.cell x c e;show absurd (yi q.lt (by rw[z];show hb)) (yU _)
 .show absurd (yi (yy (I.pin p d).1) (by rw[z];show hb)) (yU _)
structure Turn(P:Program)(w:World)(K:yf)(tg:Expr)(J:It)(fp:LX)(it:Addr)(tn:Nat->Heap->Prop):Prop where
 mem:it∈fp
 obj:∀ i h,tn i h->∀ b∈fp,∃ o,h.get? b=some o/\∀ v,o.data≠.cell v
 keep:∀ i h h',tn i h->(∀ b∈fp,∀ o,h.get? b=some o->h'.get? b=some o)->tn i h'
 item:∀(X:Cx),X.prog=P->X.w=w->X.K=K->X.calm=true->∀(i:Nat) (pins:List (Addr×Obj)) (s:Shared) (σ:St) (H:Hp) (E:Value->Shared->Prop),Inv X pins σ H s->(∀ b∈fp,qeh X pins H b)->tn i s.heap->J.go i H ->
  wpAny (model P w) X.A (pyNext (.ref it)) (λr s1=>∃ u,r=some u /\
   wpAny (model P w) X.A (letOwnedTupleGo tg (.ref it) u) (λ_ s2=>∃ x H',Inv X pins σ H' s2/\RelV x u/\J.yld i H x H'/\tn (i+1) s2.heap/\∀ b∈fp,H' b=none) E s1) E s
 done:∀(X:Cx),X.prog=P->X.w=w->X.K=K->X.calm=true->∀(i:Nat) (pins:List (Addr×Obj)) (s:Shared) (σ:St) (H:Hp) (E:Value->Shared->Prop),Inv X pins σ H s->(∀ b∈fp,qeh X pins H b)->tn i s.heap->J.stop i H ->
  wpAny (model P w) X.A (pyNext (.ref it)) (λr s1=>r=none/\Inv X pins σ H s1) E s
 self:∀(A:Around) (i:Nat) (s:Shared) (Q:Value->Shared->Prop) (E:Value->Shared->Prop),tn i s.heap->Q (.ref it) s->wpAny (model P w) A (pyIter (.ref it)) Q E s
abbrev TI:=St->Hp->(It->Hp->Prop)->Prop
def PIE(X:Cx)(pins:List (Addr×Obj))(σ:St)(tg:Expr)(R:It->Hp->Prop)(a:Value)(c:Shared):Prop:=
 ∃(it:Addr) (fp:LX) (d:Nat->Heap->Prop) (J:It) (H':Hp),a=.ref it/\Inv X pins σ H' c/\Turn X.prog X.w X.K tg J fp it d/\d 0 c.heap/\(∀ b∈fp,qeh X pins H' b)/\R J H'
def PI(X:Cx)(tg a:Expr)(c:TI):Prop:=
 ∀(pins:List (Addr×Obj)) (s:Shared) (σ:St) (H:Hp) (R:It->Hp->Prop),Inv X pins σ H s->c σ H R ->
  wpAny (model X.prog X.w) X.A (eval a X.env) (λv b=>wpAny (model X.prog X.w) X.A (pyIter v) (PIE X pins σ tg R) X.xe b) X.xe s
theorem qfY{o:Obj}{n:String}{vs:Array Value}{Q:Unit->Shared->Prop}(d:s.heap.get? it=some o)(hc:o.cls=.type n)(b:o.data=.fields vs)
    (c:["enumerate","zip","dict_itemiterator","dict_reverseitemiterator","odict_iterator","itertools.zip_longest","itertools.pairwise"].contains n=false) (a:Q () s):wpAny M A (letOwnedTupleGo tg (.ref it) u) Q E s:=by
  unfold letOwnedTupleGo;cases tg<;>first
    | show yu a
    | (cases u<;>first
        | show yu a
        | (show yp (wpAny_load d ?_)
           rw[hc,b];show wpAny M A (if (["enumerate","zip","dict_itemiterator","dict_reverseitemiterator","odict_iterator","itertools.zip_longest","itertools.pairwise"].contains n&&vs[0]?==some (rawInt _))=true then _ else _) Q E s;rw[yw (by intro h;rw[c,Bool.false_and] at h;cases h)];show yu a))
def Itl(K:yf)(a:Addr):It:=
 ⟨λi H=>∃ xs x,SqL K H a xs/\xs[i]?=some x,λi H x H'=>H'=H/\∀ xs,SqL K H a xs->xs[i]?=some x,λi H=>∃ xs,SqL K H a xs/\xs.length<=i⟩
def Itt(K:yf)(a:Addr):It:=
 ⟨λi H=>∃ xs x,SqT K H a xs/\xs[i]?=some x,λi H x H'=>H'=H/\∀ xs,SqT K H a xs->xs[i]?=some x,λi H=>∃ xs,SqT K H a xs/\xs.length<=i⟩
def Itr(lo:Int)(n:Nat):It:=⟨λi _=>i<n,λi H x H'=>H'=H/\x=.int (lo+i),λi _=>n<=i⟩
theorem turn_list{K:yf}(a it:Addr):Turn P w K tg (Itl K a) [it] it (λi h=>h.IsListIter it a i) where
 mem:=by simp
 obj:=λi h st b hb=>by
  have e:b=it:=by simpa using hb
  subst e;obtain⟨o,e,c,d⟩:=st;show⟨o,e,λv z=>by rw[d] at z;cases z⟩
 keep:=λi h h' st k=>st.at λo e=>k it (by simp) o e
 item:=by
  intro X y hw t hc i pins s σ H E I g st A;subst y hw t;obtain⟨xs,x,j,B⟩:=A;obtain⟨C,D,p,N⟩:=I.list j;obtain⟨u,L,O⟩:=D.get B;obtain⟨l,m,J,n,q,r⟩:=g it (by simp);show wpAny_pyNext_list_item st p.isList (x:=u) (by simpa using L) λh' f R=>?_;have F:Inv X pins σ H { s with heap:=h' }:=I.turned (t':=s.toks) (λb o hb e=>(R.2 b hb).trans e) l m n q r;obtain⟨o,e,c,d⟩:=id f;show⟨u,rfl,qfY (s:={ s with heap:=h' }) e c d (by decide) ⟨x,H,F,O,⟨rfl,λys M=>by rw[I.list_inj M j];show B⟩,f,λb hb=>(g b hb).1⟩⟩
 done:=by
  intro X y hw t hc i pins s σ H E I g st A;subst y hw t;obtain⟨xs,j,B⟩:=A;obtain⟨C,D,p,N⟩:=I.list j;obtain⟨l,m,J,n,q,r⟩:=g it (by simp);have hl:=D.length;show wpAny_pyNext_list_end (I.ok.hd hc) st p.isList (by simp;lk) λh' G=>⟨rfl,I.turned (t':=s.toks) (λb o hb e=>G b o hb e) l m n q r⟩
 self:=λ_ _ _ _ _ st h=>wpAny_pyIter_listiter st h
theorem turn_tuple{K:yf}(a it:Addr):Turn P w K tg (Itt K a) [it] it (λi h=>h.IsTupleIter it a i) where
 mem:=by simp
 obj:=λi h st b hb=>by
  have e:b=it:=by simpa using hb
  subst e;obtain⟨o,e,c,d⟩:=st;show⟨o,e,λv z=>by rw[d] at z;cases z⟩
 keep:=λi h h' st k=>st.at λo e=>k it (by simp) o e
 item:=by
  intro X A hw y hc i pins s σ H E I j st B;subst A hw y;obtain⟨xs,x,l,C⟩:=B;obtain⟨f,D,p,N⟩:=I.tuple l;obtain⟨u,L,O⟩:=D.get C;obtain⟨m,n,J,q,r,t⟩:=j it (by simp);show wpAny_pyNext_tuple_item st (show s.heap.IsTuple a f.toArray from p) (x:=u) (by simpa using L) λh' g R=>?_;have F:Inv X pins σ H { s with heap:=h' }:=I.turned (t':=s.toks) (λb o hb e=>(R.2 b hb).trans e) m n q r t;obtain⟨o,e,c,d⟩:=id g;show⟨u,rfl,qfY (s:={ s with heap:=h' }) e c d (by decide) ⟨x,H,F,O,⟨rfl,λys M=>by rw[I.tuple_inj M l];show C⟩,g,λb hb=>(j b hb).1⟩⟩
 done:=by
  intro X A hw y hc i pins s σ H E I j st B;subst A hw y;obtain⟨xs,l,C⟩:=B;obtain⟨f,D,p,N⟩:=I.tuple l;obtain⟨m,n,J,q,r,t⟩:=j it (by simp);have hl:=D.length;show wpAny_pyNext_tuple_end (I.ok.hd hc) st (show s.heap.IsTuple a f.toArray from p) (by simp;lk) λh' G=>⟨rfl,I.turned (t':=s.toks) (λb o hb e=>G b o hb e) m n q r t⟩
 self:=λ_ _ _ _ _ st h=>wpAny_pyIter_tupleiter st h
theorem turn_range{K:yf}(it:Addr)(lo:Int)(n:Nat):Turn P w K tg (Itr lo n) [it] it (λi h=>IsRangeIter h it (lo+(i:Nat)*1) ((n:Int)-(i:Nat)) 1) where
 mem:=by simp
 obj:=λi h st b hb=>by
  have e:b=it:=by simpa using hb
  subst e
  show⟨_,st,λv z=>by
   have A:Data.fields _=Data.cell v:=z;cases A⟩
 keep:=λi h h' st k=>k it (by simp) _ st
 item:=by
  intro X p hw m hc i pins s σ H E I c st q;subst p hw m;obtain⟨d,f,x,g,j,l⟩:=c it (by simp);have W:=Walks.range (prog:=X.prog) (w:=X.w) (I.ok.hd hc) it lo 1 n;show W.item i s _ _ q st λv h' tk hv a y=>?_;obtain⟨t,rfl⟩:=hv;have r:Inv X pins σ H { s with heap:=h',toks:=tk }:=I.turned (λb o hb e=>y b o (by simpa using hb) e) d f g j l;show⟨_,rfl,qfY (s:={ s with heap:=h',toks:=tk }) (n:="range_iterator") a rfl rfl (by decide) ⟨.int (lo+i),H,r,⟨t,?_⟩,⟨rfl,rfl⟩,a,λb hb=>(c b hb).1⟩⟩;rw[Int.mul_one]
 done:=by
  intro X p hw m hc i pins s σ H E I c st q;subst p hw m;obtain⟨d,f,x,g,j,l⟩:=c it (by simp);show wpAny_pyNext_range_end (I.ok.hd hc) st (by have:n<=i:=q;lk) λh' u=>⟨rfl,I.turned (t':=s.toks) (λb o hb e=>u b o hb e) d f g j l⟩
 self:=λ_ _ _ _ _ st h=>wpAny_pyIter_rangeiter st h
section
variable{X:Cx}{tg:Expr}
theorem range_it{R:It->Hp->Prop}{a:Int}{t u v:Tok}{tk:Nat}(I:Inv X pins σ H s)(h1:-(2 ^ 62)<=lo)(g:lo<2 ^ 62)(h:-(2 ^ 62)<=a)(i:a<2 ^ 62)
  (q:R (Itr lo (a-lo).toNat) H):wpAny (model X.prog X.w) X.A (pyIter (.ref s.heap.objs.size)) (PIE X pins σ tg R) E { s with heap:=s.heap.push { cls:=.type "range",data:=.fields #[.int lo t,.int a u,.int 1 v] },toks:=tk }:=by
 show wpAny_pyIter_range (IsRange.new ..) (small_one h1 g h i) ?_;have c:Inv X pins σ H { s with heap:=s.heap.push { cls:=.type "range",data:=.fields #[.int lo t,.int a u,.int 1 v] },toks:=tk }:=I.kept λb o e=>yq _ e;show⟨(s.heap.push { cls:=.type "range",data:=.fields #[.int lo t,.int a u,.int 1 v] }).objs.size,[(s.heap.push { cls:=.type "range",data:=.fields #[.int lo t,.int a u,.int 1 v] }).objs.size],_,_,H,rfl,
  c.kept (t':=tk) λb o e=>yq _ e,turn_range _ lo (a-lo).toNat,?_,λb hb=>?_,q⟩
 .have d:lo+((0:Nat):Int)*1=lo:=by simp
  have f:(((a-lo).toNat:Nat):Int)-((0:Nat):Int)=Builtin.Range.rangeSize lo a 1:=by rw[rangeSize_one];split<;>lk
  show IsRangeIter _ _ (lo+((0:Nat):Int)*1) ((((a-lo).toNat:Nat):Int)-((0:Nat):Int)) 1;rw[d,f];show yI _ rfl
 .have e:b=(s.heap.push { cls:=.type "range",data:=.fields #[.int lo t,.int a u,.int 1 v] }).objs.size:=by simpa using hb
  subst e;show c.fpOk (yg _) (c.hok.fresh (yg _))
def qgp(b:TA):TI:=fun σ H R=>b σ H λvs a=>∃ j:Int,vs=[.int j]/\-(2 ^ 62)<=j/\j<2 ^ 62/\R (Itr 0 j.toNat) a
theorem zV{a:Expr}{c:TA}{p:Pos}(g:Gl X "range")(i:X.mg "range"=none)(f:PA X [a] c)(l:starEach [a] X.env=[(false,eval a X.env)]:=by rfl):PI X tg (.Call (.Name "range" p) [a] [] pos) (qgp c):=by
 intro pins s σ H R I h;show Call_ (qcw I g i boot_range (PyProof.Rows.callWith_type1 (thn (f pos pins s σ H _ I h) λus u ⟨vs,o,d,n,b⟩=>?_) l rfl));obtain⟨j,e,b,m,q⟩:=b;subst e
 cases n with
 | cons r rr =>
  cases rr;obtain⟨t,rfl⟩:=r;show call_range_1 (range_it d (by lk) (by lk) b m (by simpa using q))
def qhw(f:TI)(g:TG)(tb:TS):TS:=λD σ H=>f σ H λJ d=>∃ W:Nat->Nat->St->Hp->Prop,(∃ m,W 0 m σ d)/\∀ i m σ H,W i m σ H ->
 (J.stop i H/\D.nx σ H)\/(J.go i H/\∃ N:St->Hp->Prop,(∀ a H',N a H'->∃ c,c<m/\W (i+1) c a H')/\∀ x H',J.yld i H x H'->g x σ H' λb e=>tb { D with nx:=N,ct:=N,bk:=D.nx } b e)
def qcz(fp:LX)(h:Heap):List (Addr×Obj):=fp.filterMap λb=>(h.get? b).map λo=>(b,o)
theorem qaj{o:Obj}(hb:b∈fp)(e:h.get? b=some o):(b,o)∈qcz fp h:=List.mem_filterMap.mpr ⟨b,hb,by rw[e];rfl⟩
theorem of_pinsAt{p:Addr×Obj}(c:p∈qcz fp h):p.1∈fp/\h.get? p.1=some p.2:=by
 obtain⟨b,hb,e⟩:=List.mem_filterMap.mp c
 cases q:h.get? b with
 | none=>rw[q] at e;cases e
 | some o =>
  rw[q] at e;have a:(b,o)=p:=yl e;subst a;show⟨hb,q⟩
theorem Inv.pinned(I:Inv X pins σ H s)(h:∀ b∈fp,qeh X pins H b)(i:∀ b∈fp,∃ o,s.heap.get? b=some o/\∀ v,o.data≠.cell v):Inv X (pins++qcz fp s.heap) σ H s:=
 I.pins_of λp j=>(Yj.mp j).elim (λz=>I.pin p (yE _ z)) λz=>by
  obtain⟨hb,e⟩:=of_pinsAt z;obtain⟨c,f,g,_⟩:=h p.1 hb;obtain⟨o,a,d⟩:=i p.1 hb;rw[e] at a;cases a;show⟨e,c,f,g,d⟩
theorem Inv.unpinned{pl:List (Addr×Obj)}(I:Inv X (pins++pl) σ H s):Inv X pins σ H s:=I.pins_of λp a=>I.pin p (yE _ (YO _ a))
theorem zW{p:Expr}{wi:TI}(E:PassesOwn (model X.prog X.w) X.A X.env X.xe)(hc:X.calm=true)(hi:PI X tg p wi)(hg:PG X tg g)(hb:PSs X body tb)
  (hs:∀ x,foldedSetIterable p X.env x=pure x:=by intro _;rfl):PS X (.For tg p body [] pos) (qhw wi g tb):=by
 intro pins s σ H D I h;show wpAny_For (thn (hi pins s σ H _ I h) λv s1 h1=>thn h1 λaa s2 h2=>?_) hs;obtain⟨it,fp,tn,J,H2,e,I2,T,U,f2,W,⟨m0,w0⟩,L⟩:=h2;subst e;have q:∀{H':Hp},(∀ b∈fp,H' b=none)->∀ b∈fp,qeh X pins H' b:=λhn b hb=>⟨hn b hb,(f2 b hb).2⟩;show codeAny_forLoop_any (λn s'=>∃ i t H',Inv X pins t H' s'/\tn i s'.heap/\(∀ b∈fp,H' b=none)/\W i n t H') ?_ m0 ⟨0,σ,H2,I2,U,λb hb=>(f2 b hb).1,w0⟩;rintro n s3 ⟨i,y,M,I3,G,C,w3⟩;rcases L i n y M w3 with⟨K,qn⟩ | ⟨go,N,hN,step⟩
 .show xV E (thn (T.done X rfl rfl rfl hc i pins s3 y M X.xe I3 (q C) G K) λr s4 ⟨R,I4⟩=>?_);subst R;show XH ⟨y,M,I4,qn⟩
 .show xV E (thn (T.item X rfl rfl rfl hc i pins s3 y M X.xe I3 (q C) G go) λr s4 ⟨u,R,h4⟩=>?_);subst R;show xV E (thn h4 λ_ s5 ⟨x,Z,I5,r5,y5,B,P⟩=>?_);have O:=I5.pinned (q P) (T.obj _ _ B);show xV E (thn (hg _ s5 y Z x u _ O r5 (step x Z y5)) λ_ s6 ⟨Y,H6,I6,q6⟩=>?_);show xV E (thn (hb _ s6 Y H6 _ I6 q6) λf S z=>?_)
  have l:∀{a:St} {c:Hp},Inv X (pins++qcz fp s5.heap) a c S->N a c->∃ m,m<n/\∃ i t H',Inv X pins t H' S/\tn i S.heap/\(∀ b∈fp,H' b=none)/\W i m t H':=λ{a c} j F=>by
   obtain⟨m',hm,w7⟩:=hN a c F;show⟨m',hm,i+1,a,c,j.unpinned,T.keep _ _ _ B λb hb o e=>(j.pin (b,o) (yE _ (yE _ (qaj hb e)))).1,λb hb=>?_,w7⟩;obtain⟨o,e,d⟩:=T.obj _ _ B b hb;show(j.pin (b,o) (yE _ (yE _ (qaj hb e)))).2.1
  cases f with
  | next=>obtain⟨a,c,j,F⟩:=z;show l j F
  | cont=>obtain⟨a,c,j,F⟩:=z;show l j F
  | brk=>obtain⟨a,c,j,z⟩:=z;show⟨a,c,j.unpinned,z⟩
  | ret v=>obtain⟨x7,a,c,j,r7,z⟩:=z;show⟨x7,a,c,j.unpinned,r7,z⟩
end
theorem zw{K:yf}(b:Nat->St->Hp->Prop)(l:b 0 σ H)(hl:∀ i σ H,i<=xs.length->b i σ H->SqL K H a xs)
  (r:∀ i x σ H,xs[i]?=some x->b i σ H->g x σ H λd h=>tb { D with nx:=b (i+1),ct:=b (i+1),bk:=D.nx } d h) (n:∀ σ H,b xs.length σ H->D.nx σ H) :
  ∃ W:Nat->Nat->St->Hp->Prop,(∃ m,W 0 m σ H)/\∀ i m σ H,W i m σ H ->
   ((Itl K a).stop i H/\D.nx σ H)\/((Itl K a).go i H/\∃ N:St->Hp->Prop,(∀ c H',N c H'->∃ j,j<m/\W (i+1) j c H')/\∀ x H',(Itl K a).yld i H x H'->g x σ H' λd h=>tb { D with nx:=N,ct:=N,bk:=D.nx } d h):=by
 show⟨λi m σ H=>m=xs.length-i/\i<=xs.length/\b i σ H,⟨xs.length,by simp,YX _,l⟩,?_⟩;rintro i m σ H ⟨rfl,o,p⟩;have q:=hl i σ H o p;by_cases f:i<xs.length
 .show .inr ⟨⟨xs,xs[i],q,by simp[f]⟩,b (i+1),λc H' s=>⟨xs.length-(i+1),by lk,rfl,f,s⟩,λx H' y=>?_⟩;obtain⟨e,y⟩:=y;subst e;show r i x σ _ (y xs q) p
 .have e:i=xs.length:=by lk
  subst e;show .inl ⟨⟨xs,q,yg _⟩,n σ H p⟩
theorem qen{K:yf}(b:Nat->St->Hp->Prop)(l:b 0 σ H)(hl:∀ i σ H,i<=xs.length->b i σ H->SqT K H a xs)
  (r:∀ i x σ H,xs[i]?=some x->b i σ H->g x σ H λd h=>tb { D with nx:=b (i+1),ct:=b (i+1),bk:=D.nx } d h) (n:∀ σ H,b xs.length σ H->D.nx σ H) :
  ∃ W:Nat->Nat->St->Hp->Prop,(∃ m,W 0 m σ H)/\∀ i m σ H,W i m σ H ->
   ((Itt K a).stop i H/\D.nx σ H)\/((Itt K a).go i H/\∃ N:St->Hp->Prop,(∀ c H',N c H'->∃ j,j<m/\W (i+1) j c H')/\∀ x H',(Itt K a).yld i H x H'->g x σ H' λd h=>tb { D with nx:=N,ct:=N,bk:=D.nx } d h):=by
 show⟨λi m σ H=>m=xs.length-i/\i<=xs.length/\b i σ H,⟨xs.length,by simp,YX _,l⟩,?_⟩;rintro i m σ H ⟨rfl,o,p⟩;have q:=hl i σ H o p;by_cases f:i<xs.length
 .show .inr ⟨⟨xs,xs[i],q,by simp[f]⟩,b (i+1),λc H' s=>⟨xs.length-(i+1),by lk,rfl,f,s⟩,λx H' y=>?_⟩;obtain⟨e,y⟩:=y;subst e;show r i x σ _ (y xs q) p
 .have e:i=xs.length:=by lk
  subst e;show .inl ⟨⟨xs,q,yg _⟩,n σ H p⟩
theorem qcA(a:Nat->St->Hp->Prop)(j:a 0 σ H)
  (o:∀ i σ H,i<n->a i σ H->g (.int (lo+i)) σ H λd f=>tb { D with nx:=a (i+1),ct:=a (i+1),bk:=D.nx } d f) (l:∀ σ H,a n σ H->D.nx σ H) :
  ∃ W:Nat->Nat->St->Hp->Prop,(∃ m,W 0 m σ H)/\∀ i m σ H,W i m σ H ->
   ((Itr lo n).stop i H/\D.nx σ H)\/((Itr lo n).go i H/\∃ N:St->Hp->Prop,(∀ c H',N c H'->∃ h,h<m/\W (i+1) h c H')/\∀ x H',(Itr lo n).yld i H x H'->g x σ H' λd f=>tb { D with nx:=N,ct:=N,bk:=D.nx } d f):=by
 show⟨λi m σ H=>m=n-i/\i<=n/\a i σ H,⟨n,by simp,YX _,j⟩,?_⟩;rintro i m σ H ⟨rfl,r,p⟩;by_cases b:i<n
 .show .inr ⟨b,a (i+1),λc H' q=>⟨n-(i+1),by lk,rfl,b,q⟩,λx H' y=>?_⟩;obtain⟨e,y⟩:=y;subst e y;show o i σ _ b p
 .have e:i=n:=by lk
  subst e;show .inl ⟨yg _,l σ H p⟩
abbrev R2:=V->V->Hp->VK->Prop
def OpR(X:Cx)(f:Value->Value->Sem Value)(r:R2):Prop:=
 ∀(pins:List (Addr×Obj)) (s:Shared) (σ:St) (H:Hp) (x y:V) (v u:Value) (Q:VK),Inv X pins σ H s->RelV x v->RelV y u->r x y H Q ->
  wpAny (model X.prog X.w) X.A (f v u) (EP X pins σ Q) X.xe s
def UnR(X:Cx)(f:Value->Sem Value)(r:V->Hp->VK->Prop):Prop:=
 ∀(pins:List (Addr×Obj)) (s:Shared) (σ:St) (H:Hp) (x:V) (v:Value) (Q:VK),Inv X pins σ H s->RelV x v->r x H Q ->
  wpAny (model X.prog X.w) X.A (f v) (EP X pins σ Q) X.xe s
def zX(X:Cx)(f:Value)(r:List V->Hp->VK->Prop):Prop:=
 ∀(pins:List (Addr×Obj)) (s:Shared) (σ:St) (H:Hp) (xs:List V) (us:List Value) (Q:VK),Inv X pins σ H s->Vals xs us->r xs H Q ->
  wpAny (model X.prog X.w) X.A (call f us) (EP X pins σ Q) X.xe s
def tOp(r:R2)(c tb:TE):TE:=fun σ H Q=>c σ H λx a=>tb σ a λy b=>r x y b Q
def tUn(r:V->Hp->VK->Prop)(b:TE):TE:=fun σ H Q=>b σ H λx a=>r x a Q
def rI(C:Int->Int->Prop)(g:Int->Int->V):R2:=λx y H Q=>∃ i j,x=.int i/\y=.int j/\C i j/\Q (g i j) H
def rI0(g:Int->Int->V):R2:=λx y H Q=>∃ i j,x=.int i/\y=.int j/\Q (g i j) H
def rU(g:Int->V):V->Hp->VK->Prop:=λx H Q=>∃ i,x=.int i/\Q (g i) H
section
variable{X:Cx}{a b c:Expr}{ta tb tc:TE}{pos:Pos}
theorem qhb(m:PE X a ta)(hb:PE X b tb){R:V->V->Hp->Prop}(I:Inv X pins σ H s)
  (h:ta σ H λx i=>tb σ i λy c=>R x y c) {Q:Value->Shared->Prop}
  (n:∀ v u g x y c,Inv X pins σ c g->RelV x v->RelV y u->R x y c->wpAny (model X.prog X.w) X.A (f v u) Q X.xe g) :
  wpAny (model X.prog X.w) X.A (eval a X.env) (λv d=>wpAny (model X.prog X.w) X.A (eval b X.env) (λu e=>wpAny (model X.prog X.w) X.A (f v u) Q X.xe e) X.xe d) X.xe s:=by
 show thn (m pins s σ H _ I h) λv t ⟨x,i,j,q,o⟩=>?_;show thn (hb pins t σ i _ j o) λu g ⟨y,c,l,r,p⟩=>?_;show n v u g x y c l q r p
theorem qD{op:Operator}(f:OpR X (binaryOp op) r)(e:PE X a ta)(hb:PE X b tb):PE X (.BinOp a op b pos) (tOp r ta tb):=by
 intro pins s σ H Q I h;show wpAny_BinOp (qhb e hb I h λv u j x y c d g i q=>f pins j σ c x y v u Q d g i q)
theorem qcb{op:UnaryOp}{r:V->Hp->VK->Prop}(e:UnR X (unaryOp op) r)(d:PE X a ta):PE X (.UnaryOp op a pos) (tUn r ta):=by
 intro pins s σ H Q I h;show UnaryOp_ (thn (d pins s σ H _ I h) λv i ⟨x,b,c,g,f⟩=>e pins i σ b x v Q c g f)
theorem opI{C:Int->Int->Prop}{g:Int->Int->Int}
  (a:∀(i j:Int) (t u:Tok) (s:Shared) (Q:Value->Shared->Prop) (E:Value->Shared->Prop),C i j->Q (.int (g i j) s.toks) { s with toks:=s.toks+1 }->wpAny (model X.prog X.w) X.A (f (.int i t) (.int j u)) Q E s) :
  OpR X f (rI C λi j=>.int (g i j)):=by
 intro pins s σ H x y v u Q I b c h;obtain⟨i,j,rfl,rfl,hc,q⟩:=h;obtain⟨t,rfl⟩:=b;obtain⟨t',rfl⟩:=c;show a i j t t' s _ _ hc ⟨.int (g i j),H,I.tok _,⟨_,rfl⟩,q⟩
theorem qg0{g:Int->Int->Int}
  (a:∀(i j:Int) (t u:Tok) (s:Shared) (Q:Value->Shared->Prop) (E:Value->Shared->Prop),Q (.int (g i j) s.toks) { s with toks:=s.toks+1 }->wpAny (model X.prog X.w) X.A (f (.int i t) (.int j u)) Q E s) :
  OpR X f (rI0 λi j=>.int (g i j)):=by
 intro pins s σ H x y v u Q I b c h;obtain⟨i,j,rfl,rfl,q⟩:=h;obtain⟨t,rfl⟩:=b;obtain⟨t',rfl⟩:=c;show a i j t t' s _ _ ⟨.int (g i j),H,I.tok _,⟨_,rfl⟩,q⟩
theorem qg1{g:Int->Int->Bool}
  (a:∀(i j:Int) (t u:Tok) (s:Shared) (Q:Value->Shared->Prop) (E:Value->Shared->Prop),Q (.bool (g i j)) s->wpAny (model X.prog X.w) X.A (f (.int i t) (.int j u)) Q E s) :
  OpR X f (rI0 λi j=>.bl (g i j)):=by
 intro pins s σ H x y v u Q I b c h;obtain⟨i,j,rfl,rfl,q⟩:=h;obtain⟨t,rfl⟩:=b;obtain⟨t',rfl⟩:=c;show a i j t t' s _ _ ⟨.bl (g i j),H,I,rfl,q⟩
def CDiv(i j:Int):Prop:=0<j/\j<1073741824
def qgq(i j:Int):Prop:=0<=j/\j<=1000000/\i.natAbs<2 ^ 64
def CMul(i j:Int):Prop:=(-(2 ^ 64)<i/\i<2 ^ 64)\/(-(2 ^ 64)<j/\j<2 ^ 64)
theorem CMul.ok{i j:Int}(h:CMul i j):IntMulOk i j:=by
 rcases h with⟨h1,a⟩ | ⟨h1,a⟩
 .show .of_left (intBits_le_64 h1 a)
 .show .of_right (intBits_le_64 h1 a)
theorem two_pow_nn(k:Nat):(0:Int)<=2 ^ k:=by
 rw[two_pow_cast];show Int.natCast_nonneg _
theorem op_add:OpR X (binaryOp .Add) (rI0 λi j=>.int (i+j)):=qg0 λ_ _ _ _ _ _ _ q=>add_int q
theorem qfq:OpR X (binaryOp .Sub) (rI0 λi j=>.int (i-j)):=qg0 λ_ _ _ _ _ _ _ q=>sub_int q
theorem op_mul:OpR X (binaryOp .Mult) (rI CMul λi j=>.int (i*j)):=opI λ_ _ _ _ _ _ _ hc q=>mul_int q hc.ok
theorem qdc:OpR X (binaryOp .FloorDiv) (rI CDiv λi j=>.int (i / j)):=opI λi j _ _ _ _ _ hc q=>by
 have h1:(0:Int)<j:=hc.1;have a:j<1073741824:=hc.2;show floordiv_int (by lk) (by rw[Int.fdiv_eq_ediv_of_nonneg i (by lk)];show q) (.inl (PyProof.noPylong_small (by lk)))
theorem jH:OpR X (binaryOp .Mod) (rI (λ_ j=>0<j) λi j=>.int (i % j)):=opI λi j _ _ _ _ _ hc q=>by
 have h1:(0:Int)<j:=hc;show mod_int' (by lk) (by rw[Int.fmod_eq_emod_of_nonneg i (by lk)];show q)
theorem qfr:OpR X (binaryOp .Pow) (rI qgq λi j=>.int (i ^ j.toNat)):=opI λ_ _ _ _ _ _ _ hc q=>pow_int_small hc.1 hc.2.1 hc.2.2 q
theorem qfs:OpR X (binaryOp .LShift) (rI qgq λi j=>.int (i*2 ^ j.toNat)):=opI λ_ _ _ _ _ _ _ hc q=>lshift_int_small hc.1 hc.2.1 hc.2.2 q
theorem op_shr:OpR X (binaryOp .RShift) (rI (λ_ j=>0<=j) λi j=>.int (i / 2 ^ j.toNat)):=opI λi j _ _ _ _ _ hc q =>
 rshift_int hc (by rw[Int.fdiv_eq_ediv_of_nonneg i (two_pow_nn _)];show q)
theorem op_and:OpR X (binaryOp .BitAnd) (rI0 λi j=>.int (Builtin.bitAnd i j)):=qg0 λ_ _ _ _ _ _ _ q=>and_int q
theorem qgr:OpR X (binaryOp .BitOr) (rI0 λi j=>.int (Builtin.bitOr i j)):=qg0 λ_ _ _ _ _ _ _ q=>or_int q
theorem unI{f:Value->Sem Value}{g:Int->Int}
  (a:∀(i:Int) (t:Tok) (s:Shared) (Q:Value->Shared->Prop) (E:Value->Shared->Prop),Q (.int (g i) s.toks) { s with toks:=s.toks+1 }->wpAny (model X.prog X.w) X.A (f (.int i t)) Q E s) :
  UnR X f (rU λi=>.int (g i)):=by
 intro pins s σ H x v Q I b h;obtain⟨i,rfl,q⟩:=h;obtain⟨t,rfl⟩:=b;show a i t s _ _ ⟨.int (g i),H,I.tok _,⟨_,rfl⟩,q⟩
theorem qaH:UnR X (unaryOp .USub) (rU λi=>.int (-i)):=unI λ_ _ _ _ _ q=>neg_int q
end
def scal:V->V->Bool
 | .non,.non=>true | .non,.int _=>true | .int _,.non=>true | .non,.bl _=>true | .bl _,.non=>true | .non,.str _=>true | .str _,.non=>true
 | .int _,.int _=>true | .bl _,.bl _=>true | .str _,.str _=>true | .byt _,.byt _=>true
 | .int _,.str _=>true | .str _,.int _=>true | .bl _,.str _=>true | .str _,.bl _=>true
 | _,_=>false
def rEq:R2:=λx y H Q=>scal x y=true/\Q (.bl (decide (x=y))) H
theorem dec_bl{i j:Bool}:decide (V.bl i=V.bl j)=(i==j):=by
 rw[Yn];simp
section
variable{X:Cx}{a b c:Expr}{ta tb tc:TE}{pos:Pos}
theorem fin_bl{Q:VK}{k k':Bool}(I:Inv X pins σ H s)(q:Q (.bl k) H)(e:k=k'):EP X pins σ Q (.bool k') s:=by
 subst e;show⟨.bl k,H,I,rfl,q⟩
theorem qgs:OpR X (compareOp .Lt) (rI0 λi j=>.bl (decide (i<j))):=qg1 λ_ _ _ _ _ _ _ q=>lt_int q
theorem op_le:OpR X (compareOp .LtE) (rI0 λi j=>.bl (decide (i<=j))):=qg1 λ_ _ _ _ _ _ _ q=>le_int q
theorem qgt:OpR X (compareOp .Gt) (rI0 λi j=>.bl (decide (j<i))):=qg1 λ_ _ _ _ _ _ _ q=>gt_int q
theorem op_ge:OpR X (compareOp .GtE) (rI0 λi j=>.bl (decide (j<=i))):=qg1 λ_ _ _ _ _ _ _ q=>ge_int q
theorem qJ(b:Expr)(h:op≠.In:=by decide)(d:op≠.NotIn:=by decide):behindInMarks op b=false:=by
 have a:(op==CmpOp.In)=false:=by cases op<;>first | rfl | show absurd rfl h
 have c:(op==CmpOp.NotIn)=false:=by cases op<;>first | rfl | show absurd rfl d
 cases b<;>simp[behindInMarks,a,c]
theorem zx(g:OpR X (compareOp op) r)(e:PE X a ta)(hb:PE X b tb)(f:behindInMarks op b=false):PE X (.Compare a [op] [b] pos) (tOp r ta tb):=by
 intro pins s σ H Q I h;show wpAny_Compare1 (qhb e hb I h λv u l x y c d i j q=>g pins l σ c x y v u Q d i j q) f
def qdd(t:TE):TT:=fun σ H Q=>t σ H λx H'=>∃ k,x=.bl k/\Q k H'
theorem qw(o:OpR X (compareOp op) r)(m:PE X a ta)(hb:PE X b tb)(n:behindInMarks op b=false):PT X (.Compare a [op] [b] pos) (qdd (tOp r ta tb)):=by
 intro pins s σ H Q I h
 show wpAny_isTrue_Compare1 (thn (m pins s σ H _ I h) λv C ⟨x,d,i,w,p⟩=>thn (hb pins C σ d _ i p) λu D ⟨y,f,j,A,q⟩ =>
  thn (o pins D σ f x y v u _ j w A q) λc E ⟨z,g,l,B,k,e,t⟩=>?_) n
 subst e;cases B;show Yy ⟨g,l,t⟩
def qeo(r r':R2)(ta tb tc:TE):TE:=fun σ H Q=>ta σ H λx b=>tb σ b λy c=>r x y c λz a=>∃ k,z=.bl k /\
 (if k=true then tc σ a λe d=>r' y e d Q else Q (.bl false) a)
theorem qdC(B:OpR X (compareOp op) r)(f:OpR X (compareOp op') r')(w:PE X a ta)(hb:PE X b tb)(hc:PE X c tc)
  (A:lastMarks [op,op'] [b,c]=false:=by with_unfolding_all rfl):PE X (.Compare a [op,op'] [b,c] pos) (qeo r r' ta tb tc):=by
 intro pins s σ H Q I h
 show Compare_chain (thn (w pins s σ H _ I h) λv K ⟨x,m,p,F,C⟩=>chain_link (thn (hb pins K σ m _ p C) λu L ⟨y,n,q,l,D⟩ =>
  thn (B pins L σ n x y v u _ q F l D) λd M ⟨z,g,i,G,k,e,j⟩=>?_)) A
 subst e;cases G;show Yy ?_
 cases k with
 | false=>show ite_ff ⟨.bl false,g,i,rfl,j⟩
 | true=>show ite_tt (chain_last (thn (hc pins M σ g _ i j) λO N ⟨P,o,t,J,E⟩=>f pins N σ o y P u O Q t l J E))
theorem pt_chain(F:OpR X (compareOp op) r)(f:OpR X (compareOp op') r')(D:PE X a ta)(hb:PE X b tb)(hc:PE X c tc)
  (E:lastMarks [op,op'] [b,c]=false:=by with_unfolding_all rfl):PT X (.Compare a [op,op'] [b,c] pos) (qdd (qeo r r' ta tb tc)):=by
 intro pins s σ H Q I h
 show isTrue_chain (thn (D pins s σ H _ I h) λv S ⟨x,m,q,N,J⟩=>test_link (thn (hb pins S σ m _ q J) λu T ⟨y,n,t,l,K⟩ =>
  thn (F pins T σ n x y v u _ t N l K) λd U ⟨z,g,i,O,k,e,j⟩=>?_)) E
 subst e;cases O;show Yy ?_
 cases k with
 | false =>
  obtain⟨k',B,G⟩:=j;cases B;show ite_ff ⟨g,i,G⟩
 | true =>
  show ite_tt (test_last (thn (hc pins U σ g _ i j) λY W ⟨Z,o,w,P,L⟩=>thn (f pins W σ o y Z u Y _ w l P L) λd' s5 ⟨z2,p,A,R,k2,C,M⟩=>?_));subst C;cases R;show Yy ⟨p,A,M⟩
theorem qbY:(sizeLine:Nat)<2 ^ 63:=by rw[kD];decide
theorem op_add_str:OpR X (binaryOp .Add) (λx y H Q=>∃ i j,x=.str i/\y=.str j/\i.length+j.length<=sizeLine/\Q (.str (i++j)) H):=by
 intro pins s σ H x y v u Q I b c h;obtain⟨i,j,rfl,rfl,a,q⟩:=h;obtain⟨t,rfl⟩:=b;obtain⟨t',rfl⟩:=c;show add_str (λt' tk=>⟨.str (i++j),H,I.tok _,⟨_,rfl⟩,q⟩) a
theorem qcB{x:V}(r:Vals [x] us):∃ u,us=[u]/\RelV x u:=by
 cases r with
 | cons r1 r2=>cases r2;show⟨_,rfl,r1⟩
theorem qep{x:V}(r:Vals [x,y] us):∃ u a,us=[u,a]/\RelV x u/\RelV y a:=by
 cases r with
 | cons r1 r2 =>
  cases r2 with
  | cons r3 r4=>cases r4;show⟨_,_,rfl,r1,r3⟩
theorem call_max2(hc:X.calm=true):zX X (.builtin "max") (λxs H Q=>∃ i j,xs=[.int i,.int j]/\Q (.int (if j>i then j else i)) H):=by
 intro pins s σ H xs us Q I r h;obtain⟨i,j,rfl,q⟩:=h;obtain⟨u,b,rfl,⟨t,rfl⟩,⟨t',rfl⟩⟩:=qep r;show max_two_ints (I.ok.hd hc) λh' tk k=>⟨_,H,I.kept k,?_,q⟩;by_cases a:j>i
 .rw [yB a,yB a];show⟨_,rfl⟩
 .rw [yw a,yw a];show⟨_,rfl⟩
theorem qcC(hc:X.calm=true):zX X (.builtin "min") (λxs H Q=>∃ i j,xs=[.int i,.int j]/\Q (.int (if j<i then j else i)) H):=by
 intro pins s σ H xs us Q I r h;obtain⟨i,j,rfl,q⟩:=h;obtain⟨u,b,rfl,⟨t,rfl⟩,⟨t',rfl⟩⟩:=qep r;show min_two_ints (I.ok.hd hc) λh' tk k=>⟨_,H,I.kept k,?_,q⟩;by_cases a:j<i
 .rw [yB a,yB a];show⟨_,rfl⟩
 .rw [yw a,yw a];show⟨_,rfl⟩
end
structure ObjM(h:Heap)(x dx C:Addr)(mA:Str->Option Value):Prop where
 obj:h.get? x=some (PySem.W.instObj C dx)
 ns:h.Ns1 dx mA
 ne:dx≠x
theorem qcD(n:h.Ns1 dx mA):∃ od,h.get? dx=some od/\∀ name,PySem.W.lookIn name od=some (mA name):=by
 obtain⟨o,es,ep,i,d,f,_,g⟩:=n;show⟨o,i,λname=>?_⟩;have e:=g name;unfold nsFind findBy at e;rw[<- Array.find?_toList] at e;unfold PySem.W.lookIn;rw[d];dsimp only;split
 .rename_i y q
  rw[q] at e;show congrArg some e
 .rename_i q
  rw[q] at e
  have a:es.toList.any (·.refKey)=false:=by
   rw[List.any_eq_false];intro y j;obtain⟨z,t,b⟩:=f y (Array.mem_toList_iff.mp j);simp[DictEntry.refKey,b]
  have c:¬ es.toList.any (·.refKey)=true:=by rw[a];show yV
  rw[yw c];show congrArg some e
theorem ObjM.look{x:Addr}(I:ObjM h x dx C mA):∃ od,PySem.W.InstAt h x (PySem.W.instObj C dx) C (some od)/\∀ name,PySem.W.lookIn name od=some (mA name):=
 let ⟨od,ho,hl⟩:=qcD I.ns
 ⟨od,⟨I.obj,rfl,rfl,ho⟩,hl⟩
section
variable{prog:Program}{w:World}{A:Around}{E:Value->Shared->Prop}{s:Shared}{K:yf}{x dx C f:Addr}{mA:Str->Option Value}{name:Str}{v:Value}
theorem get_map{a:Bool}{Q:Value->Shared->Prop}(X:K.In s.heap)(I:ObjM s.heap x dx C mA)(d:PySem.W.plainGet K C name=true)(e:PySem.W.hasDictIn K C=true)
  (c:PySem.W.findIn K (.ref C) name=some none) (hv:mA name=some v) (b:PySem.W.handedIn v=true) (h:Q v { s with toks:=s.toks+1 }) :
  wpAny (model prog w) A (getAttr (.ref x) name a) Q E s:=by
 obtain⟨od,J,hl⟩:=I.look;show PySem.W.get_value X J (XS d).1 (PySem.W.findObj_own e c rfl (by rw[hl,hv])) b h
theorem get_meth{Q:Value×List Value->Shared->Prop}(X:K.In s.heap)(I:ObjM s.heap x dx C mA)(a:PySem.W.plainGet K C name=true)
  (b:PySem.W.findIn K (.ref C) name=some (some (.ref f))) (c:PySem.W.isFn K (.ref f)=true) (hv:mA name=none) (h:Q (.ref f,[.ref x]) s) :
  wpAny (model prog w) A (getMethod (.ref x) name pl) Q E s:=by
 obtain⟨od,J,hl⟩:=I.look;show PySem.W.method_fn X J (XS a).1 (XS a).2 b (yM.mp c) (by show(PySem.W.lookIn name od).map (·.isSome)=some false;rw[hl,hv];rfl) h
theorem set_map{ns:LN}{Q:Unit->Shared->Prop}(X:K.In s.heap)(I:ObjM s.heap x dx C mA)
  (o:PySem.W.findIn K (.ref C) "__setattr__"=some (some (.builtin "object.__setattr__"))) (n:PySem.W.plainOver K C=true) (p:PySem.W.takerIn K C name=some none) (m:PySem.W.hasDictIn K C=true)
  (hw:PySem.Within mA ns) (hsz:ns.length<=sizeLine)
  (h:∀ h',ObjM h' x dx C (λy=>if y=name then some v else mA y)->Heap.SameBut dx s.heap h'->Q () { s with heap:=h',toks:=s.toks+2 }) :
  wpAny (model prog w) A (setAttr (.ref x) name v) Q E s:=by
 obtain⟨od,J,hl⟩:=I.look;show PySem.W.set_plain X J o (PySem.W.osa_open (s:={ s with toks:=s.toks+1 }) (r:=none) X J n p λb=>?_);obtain⟨t,hc,f⟩:=xz m;have q:s.heap.get? x=some ⟨.ref C,some dx,.plain,#[]⟩:=I.obj;show yp (yu (yp (yp (wpAny_loadPart q (yp (PySem.W.Looks.here (s:={ s with toks:=s.toks+1 }) (XT X hc) ?_))))));rw[f];show yu (a:=some dx) (yp (yu (yp ?_)));show wpAny_nsSet1 (s:={ s with toks:=s.toks+1 }) I.ns λh' c d=>?_;obtain⟨u,l,j,i,g,e⟩:=c.count (PySem.Within.cons name v hw);show yp (wpAny_lookBehind i (by rw[g];show pastItsLine_dict (yh e (by rw[Yb];lk))) ?_);show yu (h _ ⟨(d.2 _ (YW I.ne)).trans I.obj,c,I.ne⟩ d)
theorem qdD{R:Result->Shared->Prop}{vs:List Value}(X:K.In s.heap)(c:PySem.W.makesIn K C=true)
  (b:PySem.W.findIn K (.ref C) "__init__"=some (some (.ref f))) (a:PySem.W.typeIn K (.ref f)=some (.type "function"))
  (h:codeAny (model prog w) (A.under (.builtin "type.__call__" ⟨.ref C::vs,kw⟩)) (.call (.ref f) ⟨.ref (s.heap.objs.size+1)::vs,kw⟩) (PySem.W.InitBack (s.heap.objs.size+1) R)
   { s with heap:=(s.heap.push PySem.W.emptyDict).push (PySem.W.instObj C s.heap.objs.size) }) :
  codeAny (model prog w) A (.call (.ref C) ⟨vs,kw⟩) R s:=by
 obtain⟨e,g,d,t,i⟩:=s;show PySem.W.make_core (PySem.W.makes_of X c) (Yq X b) (λself=>PySem.W.bind_fn X self a) (.inl rfl) h
end
def qZ(f:Str)(v:V):List (Str×V)->List (Str×V)
 | []=>[(f,v)]
 | (g,x)::r=>if g=f then(g,v)::r else(g,x)::qZ f v r
theorem qo(f g:Str)(v:V):∀ fs:List (Str×V),(qZ f v fs).lookup g=if g=f then some v else fs.lookup g
 | []=>by
  show List.lookup g [(f,v)]=_;by_cases h:g=f
  .have hb:(g==f)=true:=yM.mpr h;simp only[List.lookup,hb,yB h]
  .have hb:(g==f)=false:=yZ.mpr h;simp only[List.lookup,hb,yw h]
 | (k,x)::r=>by
  have b:=qo f g v r;rw[show qZ f v ((k,x)::r)=(if k=f then(k,v)::r else(k,x)::qZ f v r) from rfl];by_cases a:k=f
  .rw [yB a];by_cases h:g=k
   .have hb:(g==k)=true:=yM.mpr h;simp only[List.lookup,hb,yB (h.trans a)]
   .have hb:(g==k)=false:=yZ.mpr h;simp only[List.lookup,hb,yw (λe:g=f=>h (e.trans a.symm))]
  .rw [yw a];by_cases h:g=k
   .have hb:(g==k)=true:=yM.mpr h;simp only[List.lookup,hb,yw (λe:g=f=>a (h.symm.trans e))]
   .have hb:(g==k)=false:=yZ.mpr h;simp only[List.lookup,hb];show b
theorem qbx(f:Str)(v:V):∀ fs:List (Str×V),f∈(qZ f v fs).map (·.1)/\∀ g,g∈fs.map (·.1)->g∈(qZ f v fs).map (·.1)
 | []=>⟨by simp[qZ],λg h=>by simp at h⟩
 | (k,x)::r=>by
  obtain⟨b,c⟩:=qbx f v r;rw[show qZ f v ((k,x)::r)=(if k=f then(k,v)::r else(k,x)::qZ f v r) from rfl];by_cases a:k=f
  .rw [yB a];subst a;show⟨by simp,λg h=>by simpa using h⟩
  .rw [yw a];show⟨?_,λg h=>?_⟩
   .rw [yP];show yz _ b
   .rw [yP] at h ⊢;rcases yt.mp h with e | e
    .show yt.mpr (.inl e)
    .show yz _ (c g e)
theorem jI(f:Str)(v:V):∀ fs:List (Str×V),(qZ f v fs).length<=fs.length+1
 | []=>by simp[qZ]
 | (k,x)::r=>by
  have b:=jI f v r;rw[show qZ f v ((k,x)::r)=(if k=f then(k,v)::r else(k,x)::qZ f v r) from rfl];by_cases a:k=f
  .rw [yB a,Yb,Yb];lk
  .rw [yw a,Yb,Yb];lk
theorem RelO.some_of{o:Option Value}(r:RelO (some v) o):∃ u,o=some u/\RelV v u:=by
 cases o with
 | none=>show(show False from r).elim
 | some u=>show⟨u,rfl,r⟩
theorem RelO.none_of{o:Option Value}(r:RelO none o):o=none:=by
 cases o with
 | none=>rfl
 | some u=>show(show False from r).elim
theorem qcE(r:RelV v u):PySem.W.handedIn u=true:=by
 cases v with
 | non=>cases (show u=Value.none from r);rfl
 | bl b=>cases (show u=Value.bool b from r);rfl
 | int i=>obtain⟨t,e⟩:=(show ∃ t,u=Value.int i t from r);cases e;rfl
 | str x=>obtain⟨t,e⟩:=(show ∃ t,u=Value.str x t from r);cases e;rfl
 | byt b=>obtain⟨t,e⟩:=(show ∃ t,u=Value.bytes b t from r);cases e;rfl
 | flt b=>obtain⟨t,e⟩:=(show ∃ t,u=Value.float b t from r);cases e;rfl
 | ref a=>cases (show u=Value.ref a from r);rfl
 | ty n=>cases (show u=Value.type n from r);rfl
section
variable{P:Program}{w:World}{H H':Hp}{h h':Heap}{a C dx:Addr}{fs fs':List (Str×V)}
theorem qba(b:HOk P w H h)(e:H a=some (.ins C dx fs)):∃ mA,ObjM h a dx C mA/\(∀ f,RelO (fs.lookup f) (mA f))/\PySem.Within mA (fs.map (·.1))/\fs.length<=1000/\H dx=some (.own a):=by
 obtain⟨d,z,c,g,mA,n,r,q⟩:=(show ObjOk P w H h a (.ins C dx fs) from b a _ e);show⟨mA,⟨g,n,c⟩,r,q,z,d⟩
end
structure Cls(K:yf)(C:Addr):Prop where
 pg:PySem.W.plainGet K C Str.empty=true
 hd:PySem.W.hasDictIn K C=true
 po:PySem.W.plainOver K C=true
 sa:PySem.W.findIn K (.ref C) "__setattr__"=some (some (.builtin "object.__setattr__"))
theorem Cls.get{K:yf}(c:Cls K C)(f:Str):PySem.W.plainGet K C f=true:=c.pg
def NoAttr(K:yf)(C:Addr)(f:Str):Prop:=PySem.W.findIn K (.ref C) f=some none
theorem NoAttr.taker{K:yf}{f:Str}(n:NoAttr K C f):PySem.W.takerIn K C f=some none:=by
 unfold PySem.W.takerIn;rw[show PySem.W.findIn K (.ref C) f=some none from n];rfl
structure Con(K:yf)(C:Addr)(f:Str)(v:V)(u:Value):Prop where
 at_:PySem.W.findIn K (.ref C) f=some (some u)
 rel:RelV v u
 get:PySem.W.specialIn K u "__get__"=some none
 cp:PySem.W.copiedNames.contains f=false
structure Meth(K:yf)(C:Addr)(m:Str)(f:Addr):Prop where
 at_:PySem.W.findIn K (.ref C) m=some (some (.ref f))
 fn:PySem.W.isFn K (.ref f)=true
 kp:PySem.W.keepIn K (.ref f)=true
section
variable{X:Cx}{pins:List (Addr×Obj)}{σ:St}{H:Hp}{s:Shared}{a C dx:Addr}{fs:List (Str×V)}{f:Str}{v:V}{A:Around}{E:Value->Shared->Prop}
theorem getattr_ok{b:Bool}{Q:Value->Shared->Prop}(I:Inv X pins σ H s)(e:H a=some (.ins C dx fs))(c:Cls X.K C)(n:NoAttr X.K C f)(l:fs.lookup f=some v)
  (h:∀ u s',Inv X pins σ H s'->RelV v u->Q u s'):wpAny (model X.prog X.w) A (getAttr (.ref a) f b) Q E s:=by
 obtain⟨mA,O,r,_,_,_⟩:=qba I.hok e;obtain⟨u,g,d⟩:=RelO.some_of (v:=v) (o:=mA f) (by rw[<- l];show r f);show get_map I.kIn O (c.get f) c.hd n g (qcE d) (h u _ (I.tok _) d)
theorem qak{m:Str}{g:Addr}{Q:Value×List Value->Shared->Prop}(I:Inv X pins σ H s)(e:H a=some (.ins C dx fs))(c:Cls X.K C)(k:Meth X.K C m g)(l:fs.lookup m=none)
  (h:Q (.ref g,[.ref a]) s):wpAny (model X.prog X.w) A (getMethod (.ref a) m pl) Q E s:=by
 obtain⟨mA,O,r,_,_,_⟩:=qba I.hok e;have b:mA m=none:=RelO.none_of (by rw[<- l];show r m);show get_meth I.kIn O (c.get m) k.at_ k.fn b h
theorem setattr_ok{Q:Unit->Shared->Prop}(I:Inv X pins σ H s)(e:H a=some (.ins C dx fs))(c:Cls X.K C)(n:NoAttr X.K C f)(hl:fs.length<1000)(t:RelV y u)
  (h:∀ s',Inv X pins σ (upd H a (.ins C dx (qZ f y fs))) s'->Q () s'):wpAny (model X.prog X.w) A (setAttr (.ref a) f u) Q E s:=by
 obtain⟨mA,O,r,j,_,i⟩:=qba I.hok e;have p:(fs.map (·.1)).length<=sizeLine:=by rw[ya,kD];lk
 show set_map I.kIn O c.sa c.po n.taker c.hd j p λh' d v=>h _ ?_;have l:∃ o,h'.get? dx=some o:=let ⟨o,_,_,e',_⟩:=d.ns;⟨o,e'⟩;show I.write (x:=a) (e:=dx) (by rw[e];show Yp) (.inr i) (λb q hb z=>(v.2 b hb).trans z) l ?_;show⟨by rw[qh O.ne];show i,?_,O.ne,d.obj,_,d.ns,λg=>?_,λg m=>?_⟩
 .have:=jI f y fs;lk
 .show RelO ((qZ f y fs).lookup g) (if g=f then some u else mA g);rw[qo];by_cases q:g=f
  .rw [yB q,yB q];show t
  .rw [yw q,yw q];show r g
 .by_cases q:g=f
  .rw [q];show(qbx f y fs).1
  .show(qbx f y fs).2 g (j g λz=>m ?_);show(if g=f then some u else mA g)=none;rw[yw q];show z
theorem Inv.made(I:Inv X pins σ H s):Inv X pins σ (upd (upd H s.heap.objs.size (.own (s.heap.objs.size+1))) (s.heap.objs.size+1) (.ins C s.heap.objs.size []))
  { s with heap:=(s.heap.push PySem.W.emptyDict).push (PySem.W.instObj C s.heap.objs.size) }:=by
 have c:(s.heap.push PySem.W.emptyDict).get? s.heap.objs.size=some PySem.W.emptyDict:=yI s.heap rfl
 have g:((s.heap.push PySem.W.emptyDict).push (PySem.W.instObj C s.heap.objs.size)).get? (s.heap.objs.size+1)=some (PySem.W.instObj C s.heap.objs.size):=by
  have:=yI (s.heap.push PySem.W.emptyDict) (o:=PySem.W.instObj C s.heap.objs.size) rfl
  rwa[YQ] at this
 have h:(s.heap.push PySem.W.emptyDict).Ns s.heap.objs.size (λ_=>none):=⟨PySem.W.emptyDict,#[],_,c,rfl,(λe i=>absurd i (by simp)),λ_=>rfl⟩;have f:=I.laid (a:=s.heap.objs.size) (o:=.own (s.heap.objs.size+1)) (h':=s.heap.push PySem.W.emptyDict) (t':=s.toks) (λb u q=>yq _ q) (yg _) ⟨_,c⟩;show f.laid (a:=s.heap.objs.size+1) (o:=.ins C s.heap.objs.size []) (t':=s.toks) (λb u q=>yq _ q) (XY (YQ _ _)) ?_;have d:s.heap.objs.size≠s.heap.objs.size+1:=yG (Xv _);show⟨by rw[qh d,qc],YX _,d,g,λ_=>none,(Heap.Ns1.of_empty h).at λo q=>yq _ q,λ_=>Yp,λy j=>absurd rfl j⟩
theorem attr_of{prog:Program}{env:Env}{f:Str}{Q:Value->Shared->Prop}(hb:attributeBase e f env (eval e env)=eval e env)
  (h:wpAny (model prog w) A (eval e env) (λo a=>wpAny (model prog w) A (getAttr o f true) Q E a) E s):wpAny (model prog w) A (eval (.Attribute e f pos) env) Q E s:=
 Attribute_any_ h (by rw[arm_eval_Attribute,hb])
end
section
variable{X:Cx}{o e value:Expr}{f:Str}{pos pos' tpos:Pos}{ta tv:TE}
end
section
variable{X:Cx}{pins:List (Addr×Obj)}{σ:St}{H:Hp}{s:Shared}{A:Around}{E:Value->Shared->Prop}{Q:Value->Shared->Prop}{c:Value}{b:Bool}
inductive TyOf(K:yf)(H:Hp):V->Value->Prop where
 | non:TyOf K H .non (.type "NoneType")
 | bl (x:Bool):TyOf K H (.bl x) (.type "bool")
 | int (i:Int):TyOf K H (.int i) (.type "int")
 | str (x:Str):TyOf K H (.str x) (.type "str")
 | flt (x:UInt64):TyOf K H (.flt x) (.type "float")
 | lst {a:Addr} {xs:List V} (e:H a=some (.lst xs)):TyOf K H (.ref a) (.type "list")
 | frz {a:Addr} {o:Obj} {xs:List V} (e:H a=some (.frz o (.lst xs))):TyOf K H (.ref a) (.type "list")
 | tup {a:Addr} {xs:List V} (e:H a=some (.tup xs)):TyOf K H (.ref a) (.type "tuple")
 | dK {a:Addr} {kvs:List (Key×V)} (e:H a=some (.dK kvs)):TyOf K H (.ref a) (.type "dict")
 | dT {a:Addr} {kvs:List (List Key×V)} (e:H a=some (.dT kvs)):TyOf K H (.ref a) (.type "dict")
 | ins {a C dx:Addr} {fs:List (Str×V)} (e:H a=some (.ins C dx fs)) (cl:Cls K C) (ha:PySem.W.findIn K (.ref C) "__class__"=some (some (.builtin "object.__class__")))
   (hn:PySem.W.specialIn K (.builtin "object.__class__") "__get__"=some (some (.builtin "getset_descriptor.__get__"))) (htk:PySem.W.takesIn K (.builtin "object.__class__")=some true)
   (hm:PySem.W.mroIn K C (.type "object")=some true):TyOf K H (.ref a) (.ref C)
end
structure Room(k:Nat)(A:Around):Prop where
 hd:A.handled=none
 dp:A.depth+3*k+5<recursionLimit
 un:A.units+16*k+200<cLine
 gd:A.guards=some []
theorem Room.mono{k:Nat}(r:Room k A)(h:j<=k):Room j A:=⟨r.hd,by have:=r.dp;lk,by have:=r.un;lk,r.gd⟩
theorem Room.deeper{k:Nat}(r:Room (k+1) A)(env:Env):Room k (A.deeper env):=
 ⟨r.hd,by have:=r.dp;show A.depth+1+3*k+5<_;lk,by have:=r.un;show A.units+3+16*k+200<_;lk,r.gd⟩
theorem make_depth:(A.under (.builtin "type.__call__" ⟨.ref C::us,kw⟩)).depth=A.depth+1:=by
 first | rfl | simp[Around.under,Code.weight,Code.isCreation,Code.isGuard,Code.isCaller,Code.frames,Code.isFrame,guardIds]
theorem make_units:(A.under (.builtin "type.__call__" ⟨.ref C::us,kw⟩)).units=A.units+1:=by
 first | rfl | simp[Around.under,Code.cUnits,Code.frames,Code.isFrame]
theorem make_guards:(A.under (.builtin "type.__call__" ⟨.ref C::us,kw⟩)).guards=A.guards:=by
 first | rfl | simp[Around.under,Code.guards,Code.isGuard,guardIds,pushGuards]
theorem Room.make{k:Nat}(r:Room (k+1) A)(C:Addr)(us:List Value)(kw:List (Str×Value)):Room k (A.under (.builtin "type.__call__" ⟨.ref C::us,kw⟩)):=
 ⟨r.hd,by have:=r.dp;rw[make_depth];lk,by have:=r.un;rw[make_units];lk,by rw[make_guards];show r.gd⟩
theorem Room.depth{k:Nat}(r:Room k A):A.depth<recursionLimit:=by have:=r.dp;lk
def qc7:TA:=λ_ H Q=>Q [] H
def j3(c:TE)(d:TA):TA:=fun σ H Q=>c σ H λx a=>d σ a λxs b=>Q (x::xs) b
section
variable{X:Cx}{e:Expr}{es:List Expr}{te:TE}{t:TA}{pos:Pos}
theorem qb:PA X [] qc7:=λ_ _ _ _ H Q I h=>Calls.spliced_nil ⟨[],H,I,.nil,h⟩
theorem qa(f:PE X e te)(g:PA X es t)(i:starEach (e::es) X.env=(false,eval e X.env)::starEach es X.env:=by rfl):PA X (e::es) (j3 te t):=by
 intro pos pins s σ H Q I h;rw[i];show wpAny _ _ (spliced ((false,eval e X.env)::backTo pos (starEach es X.env))) _ _ s;show Calls.spliced_cons (thn (f pins s σ H _ I h) λu o ⟨x,a,c,m,j⟩=>?_);show thn (g pos pins o σ a _ c j) λus p ⟨xs,b,d,n,l⟩=>⟨x::xs,b,d,.cons m n,l⟩
inductive NewT(xs:List V)(H:Hp)(Q:VK):Prop|mk (_:xs.length<=sizeLine) (_:∀ p,H p=none->Q (.ref p) (upd H p (.tup xs)))
inductive NewL(xs:List V)(H:Hp)(Q:VK):Prop|mk (_:xs.length<=sizeLine) (_:∀ p,H p=none->Q (.ref p) (upd H p (.lst xs)))
def qgu(t:TA):TE:=fun σ H Q=>t σ H λxs a=>NewT xs a Q
def qft(t:TA):TE:=fun σ H Q=>t σ H λxs a=>NewL xs a Q
theorem qV{x1}(h:PA X es t):PE X (.Tuple es x1 pos) (qgu t):=by
 intro pins s σ H Q I g;show wpAny_Tuple_spliced (thn (h pos pins s σ H _ I g) λus a ⟨xs,c,d,r,z,q⟩=>⟨by rw[<- r.length];show z,?_⟩);have f:c a.heap.objs.size=none:=d.hok.fresh (yg _);show⟨.ref a.heap.objs.size,upd c a.heap.objs.size (.tup xs),d.laid (t':=a.toks) (λb u e=>yq _ e) (yg _) ?_,rfl,q _ f⟩;show⟨z,us,r,⟨_,yI _ rfl,rfl,_,rfl⟩⟩
theorem qy(h:PA X es t):PE X (.List es pos) (qft t):=by
 intro pins s σ H Q I g;show wpAny_List_spliced (thn (h pos pins s σ H _ I g) λus a ⟨xs,c,d,r,z,q⟩=>⟨by rw[<- r.length];show z,?_⟩);have f:c a.heap.objs.size=none:=d.hok.fresh (yg _);show⟨.ref a.heap.objs.size,upd c a.heap.objs.size (.lst xs),d.laid (t':=a.toks) (λb u e=>yq _ e) (yg _) ?_,rfl,q _ f⟩;show⟨z,us,0,r,yI _ rfl⟩
end
abbrev Sp:=List V->Hp->VK->XK->Prop
abbrev CXT:=List Env->Hp->Shared->XK->Value->Shared->Prop
structure Env0(P:Program)(w:World)(K:yf)(mg:Str->Option Value)(base:Heap)(A:Around)(outer:List Env)(s:Shared)(H:Hp):Prop where
 frames:A.frames=some outer
 mod:Mod K mg base
 bs:∀ b o,base.get? b=some o->s.heap.get? b=some o/\H b=none
 bsz:base.objs.size<=s.heap.objs.size
 funs:s.heap.FunFrames base outer
 frf:∀ b∈frs outer,H b=none
 hok:HOk P w H s.heap
 bare:AllBare s.gens
def CE(outer:List Env)(P:Program)(w:World)(H:Hp)(s:Shared)(Q:VK)(u:Value)(s':Shared):Prop:=
 ∃ v H',s'.os=s.os/\AllBare s'.gens/\Un (frs outer) [] H H' s.heap s'.heap/\HOk P w H' s'.heap/\RelV v u/\Q v H'
def CR(CX:CXT)(outer:List Env)(P:Program)(w:World)(H:Hp)(s:Shared)(Q:VK)(E:XK)(r:Result)(s':Shared):Prop:=
 match r with
 | .ok (.ret u)=>CE outer P w H s Q u s'
 | .ok _=>False
 | .error e=>CX outer H s E e s'
structure FnOk(P:Program)(w:World)(K:yf)(mg:Str->Option Value)(base:Heap)(CX:CXT)(k:Nat)(f:Addr)(fd:FuncData)(ps:LN)(sp:Sp):Prop where
 len:∀ vs H Q E,sp vs H Q E->vs.length=ps.length
 run:∀(A:Around) (outer:List Env) (s:Shared) (H:Hp) (args:Args) (us:List Value) (vs:List V) (Q:VK) (E:XK),Room k A->Env0 P w K mg base A outer s H->BindsTo s fd args (ps.zip us)->Vals vs us->sp vs H Q E ->
  codeAny (model P w) A (.call (.ref f) args) (CR CX outer P w H s Q E) s
theorem Env0.make{K:yf}(e:Env0 P w K mg base A outer s H)(C:Addr)(us:List Value)(kw:List (Str×Value)) :
  Env0 P w K mg base (A.under (.builtin "type.__call__" ⟨.ref C::us,kw⟩)) outer s H:=⟨by first | show e.frames | (simpa [Around.under,Code.envs,Code.isFrame,pushEnvs] using e.frames),e.mod,e.bs,e.bsz,e.funs,e.frf,e.hok,e.bare⟩
section
variable{X:Cx}{pins:List (Addr×Obj)}{σ:St}{H:Hp}{s s':Shared}
theorem Inv.env0(I:Inv X pins σ H s):Env0 X.prog X.w X.K X.mg X.base X.A X.stack s H:=
 ⟨I.ok.frames,I.ok.mod,I.bs,yh I.ok.bsz I.sz,I.stack,I.stkFree,I.hok,I.bare⟩
theorem Inv.after{Q:VK}(I:Inv X pins σ H s)(h:CE X.stack X.prog X.w H s Q u s'):EP X pins σ Q u s':=by
 obtain⟨v,H',i,a,un,c,r,q⟩:=h;obtain⟨f,g,d,t,e⟩:=s';obtain rfl:e=s.os:=i;show⟨v,H',I.call (h':=f) (g':=g) (d':=d) (t':=t) (ch:=[]) un c a (λb z=>absurd z (by simp)),r,q⟩
end
def qd8(sp:Sp)(a:List V)(E:XK)(t:TA):TE:=fun σ H Q=>t σ H λvs b=>sp (vs++a) b Q E
inductive MeR(C:Addr)(m:Str)(x:V)(H:Hp)(k:Prop):Prop|mk (a dx:Addr) (fs:List (Str×V)) (_:x=.ref a) (_:H a=some (.ins C dx fs)) (_:fs.lookup m=none) (_:k)
def qeq(C:Addr)(m:Str)(sp:Sp)(a:List V)(E:XK)(d:TE)(t:TA):TE:=fun σ H Q=>d σ H λx b=>MeR C m x b (t σ b λvs c=>sp (x::(vs++a)) c Q E)
def qfZ(C:Addr)(sp:Sp)(b:List V)(E:XK)(t:TA):TE:=fun σ H Q=>t σ H λvs a=>∀ x dx,a x=none->a dx=none->dx≠x ->
 sp (.ref x::(vs++b)) (upd (upd a dx (.own x)) x (.ins C dx [])) (λv c=>v=.non/\Q (.ref x) c) E
def Binds(K:yf)(b:FuncData)(ps:LN)(a:List Value):Prop:=
 ∀(s:Shared) (us:List Value),K.In s.heap->(us++a).length=ps.length->BindsTo s b ⟨us,[]⟩ (ps.zip (us++a))
theorem Binds.all{K:yf}{a:FuncData}(h:∀ us:List Value,us.length=ps.length->bindArgs a ⟨us,[]⟩=pure (ps.zip us)):Binds K a ps []:=λs us _ hl=>by
 rw[Yt] at hl ⊢;show .of_eq (h us hl)
def zR(CX:CXT)(X:Cx)(E:XK):Prop:=∀(pins:List (Addr×Obj)) (σ:St) (H:Hp) (s:Shared) (e:Value) (s':Shared),Inv X pins σ H s->CX X.stack H s E e s'->X.xe e s'
section
variable{X:Cx}{CX:CXT}{k:Nat}{f C:Addr}{fd:FuncData}{ps:LN}{sp:Sp}{dvs:List V}{ds:List Value}{E:XK}{x m:Str}{p pos apos:Pos}{e o:Expr}{es:List Expr}{ta:TE}{t:TA}
theorem qdE{Q:VK}(F:FnOk X.prog X.w X.K X.mg X.base CX k f fd ps sp)(d:Room k X.A)(hb:Binds X.K fd ps ds)(c:Vals dvs ds)(g:zR CX X E)
  (I:Inv X pins σ H s) (r:Vals vs us) (h:sp (vs++dvs) H Q E):wpAny (model X.prog X.w) X.A (call (.ref f) us) (EP X pins σ Q) X.xe s:=by
 have b:Vals (vs++dvs) (us++ds):=r.append c;have hl:(us++ds).length=ps.length:=by rw[<- b.length];show F.len _ _ _ _ h
 show YZ (YN (F.run X.A X.stack s H ⟨us,[]⟩ (us++ds) (vs++dvs) Q E d I.env0 (hb s us I.kIn hl) b h) λr s' a=>?_)
 cases r with
 | error e=>show g pins σ H s e s' I a
 | ok fl =>
  cases fl with
  | ret u=>show I.after a
  | next=>show False.elim a
  | brk=>show False.elim a
  | cont=>show False.elim a
theorem pe_call(F:FnOk X.prog X.w X.K X.mg X.base CX k f fd ps sp)(n:Room k X.A)(j:Gl X x)(m:X.mg x=some (.ref f))(l:PySem.W.keepIn X.K (.ref f)=true)(hb:Binds X.K fd ps ds)(g:Vals dvs ds)(o:zR CX X E)
  (d:PA X (e::es) t) (a:(x==("__debug__":Str))=false:=by decide) (i:starEach (e::es) X.env=(false,eval e X.env)::starEach es X.env:=by rfl) (b:(backTo pos (starEach es X.env)).any (·.1)=false:=by rfl) :
  PE X (.Call (.Name x p) (e::es) [] pos) (qd8 sp dvs E t):=by
 intro pins s σ H Q I h;show Yr (zm I j m ?_ a);show YF (h₀:=X.base) I.ok.mod.kin l (thn (d pos pins s σ H _ I h) λus v ⟨vs,u,c,r,q⟩=>⟨c.kIn,?_⟩) i b;show qdE F n hb g o c r q
theorem pe_meth(B:PE X o ta)(c:Cls X.K C)(j:Meth X.K C m f)(F:FnOk X.prog X.w X.K X.mg X.base CX k f fd ps sp)(D:Room k X.A)(hb:Binds X.K fd ps ds)(z:Vals dvs ds)(J:zR CX X E)(y:PA X (e::es) t)
  (d:starEach (e::es) X.env=(false,eval e X.env)::starEach es X.env:=by rfl) (b:(backTo pos (starEach es X.env)).any (·.1)=false:=by rfl)
  (G:eval (.Call (.Attribute o m apos) (e::es) [] pos) X.env=(do
   let ov <- eval o X.env
   standAt apos.atName
   let (f,first) <- holding [ov] (getMethod ov m pl)
   callWith pos f first (backTo pos (starEach (e::es) X.env)) (backToKw pos (keywordEach [] X.env))):=by rfl) :
  PE X (.Call (.Attribute o m apos) (e::es) [] pos) (qeq C m sp dvs E ta t):=by
 intro pins s σ H Q I h;show YL (pl:=pl) (thn (B pins s σ H _ I h) λu N ⟨x,n,g,M,a,dx,fs,v,p,l,q⟩=>?_) G;subst v;obtain rfl:u=Value.ref a:=M;show qak g p c j l ?_;show YF (first:=[.ref a]) (h₀:=X.base) I.ok.mod.kin j.kp (thn (y pos pins N σ n _ g q) λus P ⟨vs,O,i,r,L⟩=>⟨i.kIn,?_⟩) d b;show qdE (us:=.ref a::us) (vs:=.ref a::vs) F D hb z J i (.cons rfl r) L
theorem pe_meth0(j:PE X o ta)(c:Cls X.K C)(d:Meth X.K C m f)(F:FnOk X.prog X.w X.K X.mg X.base CX k f fd ps sp)(n:Room k X.A)(hb:Binds X.K fd ps ds)(i:Vals dvs ds)(r:zR CX X E)
  (p:eval (.Call (.Attribute o m apos) [] [] pos) X.env=(do
   let ov <- eval o X.env
   standAt apos.atName
   let (f,first) <- holding [ov] (getMethod ov m pl)
   callWith pos f first (backTo pos (starEach [] X.env)) (backToKw pos (keywordEach [] X.env))):=by rfl) :
  PE X (.Call (.Attribute o m apos) [] [] pos) (qeq C m sp dvs E ta qc7):=by
 intro pins s σ H Q I h;show YL (pl:=pl) (thn (j pins s σ H _ I h) λu y ⟨x,v,b,t,a,dx,fs,g,e,l,q⟩=>?_) p;subst g;obtain rfl:u=Value.ref a:=t;show qak b e c d l ?_;show XU (first:=[.ref a]) b.kIn d.kp (qdE (us:=[.ref a]) (vs:=[.ref a]) F n hb i r b (.cons rfl .nil) q)
structure Mk(K:yf)(C f:Addr):Prop where
 makes:PySem.W.makesIn K C=true
 init:PySem.W.findIn K (.ref C) "__init__"=some (some (.ref f))
 fn:PySem.W.isFn K (.ref f)=true
 kp:PySem.W.keepIn K (.ref C)=true
theorem run_make{Q:VK}(M:Mk X.K C f)(F:FnOk X.prog X.w X.K X.mg X.base CX k f fd ps sp)(m:Room (k+1) X.A)(hb:Binds X.K fd ps ds)(l:Vals dvs ds)
  (n:zR CX X E) (I:Inv X pins σ H s) (r:Vals vs us)
  (h:∀ x dx,H x=none->H dx=none->dx≠x->sp (.ref x::(vs++dvs)) (upd (upd H dx (.own x)) x (.ins C dx [])) (λv g=>v=.non/\Q (.ref x) g) E) :
  wpAny (model X.prog X.w) X.A (call (.ref C) us) (EP X pins σ Q) X.xe s:=by
 have c:=h (s.heap.objs.size+1) s.heap.objs.size (I.hok.fresh (xN _)) (I.hok.fresh (yg _)) (yG (Xv _));have b:=Inv.made (C:=C) I;have d:Vals (V.ref (s.heap.objs.size+1)::(vs++dvs)) (Value.ref (s.heap.objs.size+1)::(us++ds)):=.cons rfl (r.append l)
 have hl:(Value.ref (s.heap.objs.size+1)::us++ds).length=ps.length:=by
  have e:=d.length;rw[F.len _ _ _ _ c] at e;show e.symm
 show YZ (qdD (f:=f) I.kIn M.makes M.init (yM.mp M.fn) (YN (F.run _ X.stack _ _ ⟨Value.ref (s.heap.objs.size+1)::us,[]⟩ (Value.ref (s.heap.objs.size+1)::(us++ds)) _ _ E (m.make C us [])
  (b.env0.make C us []) (hb _ (Value.ref (s.heap.objs.size+1)::us) b.kIn hl) d c) λr s' a=>?_))
 cases r with
 | error e=>show n pins σ _ _ e s' b a
 | ok fl =>
  cases fl with
  | ret u =>
   obtain⟨v,H',i,p,j,o⟩:=b.after a;subst j;show⟨p,⟨V.ref (s.heap.objs.size+1),H',i,rfl,o⟩⟩
  | next=>show False.elim a
  | brk=>show False.elim a
  | cont=>show False.elim a
theorem pe_make(M:Mk X.K C f)(F:FnOk X.prog X.w X.K X.mg X.base CX k f fd ps sp)(m:Room (k+1) X.A)(j:Gl X x)(l:X.mg x=some (.ref C))(hb:Binds X.K fd ps ds)(g:Vals dvs ds)(n:zR CX X E)
  (d:PA X (e::es) t) (a:(x==("__debug__":Str))=false:=by decide) (i:starEach (e::es) X.env=(false,eval e X.env)::starEach es X.env:=by rfl) (b:(backTo pos (starEach es X.env)).any (·.1)=false:=by rfl) :
  PE X (.Call (.Name x p) (e::es) [] pos) (qfZ C sp dvs E t):=by
 intro pins s σ H Q I h;show Yr (zm I j l ?_ a);show YF (h₀:=X.base) I.ok.mod.kin M.kp (thn (d pos pins s σ H _ I h) λus u ⟨vs,o,c,r,q⟩=>⟨c.kIn,?_⟩) i b;show run_make M F m hb g n c r q
end
section
variable{X:Cx}{CX:CXT}{k:Nat}{f C:Addr}{fd:FuncData}{ps ks:LN}{sp:Sp}{E:XK}{x m:Str}{p pos apos kpos:Pos}{e o:Expr}{es:List Expr}{kws:List Keyword}{te ta:TE}{t tk:TA}{nm:Option Str}
structure KBinds(K:yf)(fd:FuncData)(ps ks:LN)(g:List Value->List Value->List Value)(gV:List V->List V->List V):Prop where
 to:∀(s:Shared) (us ws:List Value),K.In s.heap->(g us ws).length=ps.length->BindsTo s fd ⟨us,ks.zip ws⟩ (ps.zip (g us ws))
 rel:∀{vs:List V} {us:List Value} {zs:List V} {ws:List Value},Vals vs us->Vals zs ws->Vals (gV vs zs) (g us ws)
variable{g:List Value->List Value->List Value}{gV:List V->List V->List V}
end
structure FnScope(N P:LN)(sc:Scope):Prop where
 kind:sc.kind=.function
 co:sc.isCoroutine=false
 gen:sc.isGenerator=false
 nd:N.Nodup
 pre:N.take P.length=P
 par:∀ x∈P,sc.names.lookup x=some .local\/sc.names.lookup x=some .cell
 nofree:∀ y∈sc.names,y.2≠.free
theorem fS{P:LN}(a:sc.kind=.function:=by rfl)(b:sc.isCoroutine=false:=by rfl)(c:sc.isGenerator=false:=by rfl)(d:N.Nodup:=by room)(e:N.take P.length=P:=by rfl)(f:∀ x∈P,sc.names.lookup x=some .local\/sc.names.lookup x=some .cell:=by room)(g:∀ y∈sc.names,y.2≠.free:=by room):FnScope N P sc:=⟨a,b,c,d,e,f,g⟩
theorem qcF:∀{binds:List (Str×Value)} {m:Str->Option Value},(∀ v,(x,v)∉binds)->bindL kindOf binds m x=m x
 | [],_,_=>rfl
 | (n,v)::r,m,h=>by
  unfold bindL;rw[qcF λw hw=>h w (yz _ hw)];split
  .have:x≠n:=by rintro rfl;show h v yC
   simp[this]
  .rfl
theorem qcG:∀{binds:List (Str×Value)} {m:Str->Option Value},(∀ v,(x,v)∉binds)->bindC kindOf binds m x=m x
 | [],_,_=>rfl
 | (n,v)::r,m,h=>by
  unfold bindC;rw[qcG λw hw=>h w (yz _ hw)];split
  .rfl
  .have:x≠n:=by rintro rfl;show h v yC
   simp[this]
theorem qcH{v:Value}:∀{P:LN} {vs:List Value} {i:Nat} {m:Str->Option Value},P.Nodup->P[i]?=some x->vs[i]?=some v->kindOf x=some .local ->
  bindL kindOf (P.zip vs) m x=some v
 | [],_,_,_,_,h,_,_=>by simp at h
 | _::_,[],_,_,_,_,h,_=>by simp at h
 | p::P,w::vs,0,m,nd,h1,h2,hk=>by
  simp at h1 h2;subst h1;subst h2;show bindL kindOf ((p,w)::P.zip vs) m p=_;unfold bindL;rw[qcF λv hv=>(ym.mp nd).1 (XI hv).1,yB hk];simp
 | p::P,w::vs,i+1,m,nd,h1,h2,hk=>by
  show bindL kindOf ((p,w)::P.zip vs) m x=_;unfold bindL;show qcH (i:=i) (ym.mp nd).2 (by simpa using h1) (by simpa using h2) hk
theorem qcI{v:Value}:∀{P:LN} {vs:List Value} {i:Nat} {m:Str->Option Value},P.Nodup->P[i]?=some x->vs[i]?=some v->kindOf x≠some .local ->
  bindC kindOf (P.zip vs) m x=some v
 | [],_,_,_,_,h,_,_=>by simp at h
 | _::_,[],_,_,_,_,h,_=>by simp at h
 | p::P,w::vs,0,m,nd,h1,h2,hk=>by
  simp at h1 h2;subst h1;subst h2;show bindC kindOf ((p,w)::P.zip vs) m p=_;unfold bindC;rw[qcG λv hv=>(ym.mp nd).1 (XI hv).1,yw hk];simp
 | p::P,w::vs,i+1,m,nd,h1,h2,hk=>by
  show bindC kindOf ((p,w)::P.zip vs) m x=_;unfold bindC;show qcI (i:=i) (ym.mp nd).2 (by simpa using h1) (by simpa using h2) hk
def jP(N:LN)(vs:List V):St:=vs.map some++List.replicate (N.length-vs.length) none
def qe7(CX:CXT)(P:Program)(w:World)(K:yf)(mg:Str->Option Value)(base:Heap)(N:LN)(qual:Str)(scope:Scope)(f:Addr)(b:Value)(A:Around)(outer:List Env)(s:Shared)(H:Hp)(E:XK):Cx where
 prog:=P
 w:=w
 K:=K
 mg:=mg
 base:=base
 A:=A.deeper (envOfC qual scope s.heap.objs.size f b)
 N:=N
 s₀:=s
 H₀:=H
 env:=envOfC qual scope s.heap.objs.size f b
 outer:=outer
 stack:=envOfC qual scope s.heap.objs.size f b::outer
 ex:=[]
 calm:=true
 fn:=λ_=>true
 pn:=[]
 xe:=λe s'=>wpAny (model P w) (A.deeper (envOfC qual scope s.heap.objs.size f b)) (leaving (envOfC qual scope s.heap.objs.size f b) e) (λ_ a=>CX outer H s E e a) (λc a=>CX outer H s E c a) s'
theorem qdF(h:sc.names.lookup x=some .cell):∃ c,(cellsFrom n sc.names []).lookup x=some c:=by
 have q:=Xf sc.names n [] (.inl h);show Option.isSome_iff_exists.mp q
theorem qcJ{K:yf}{f:Addr}{o:Value}{D:Shared}{E:XK}
  (S:FnScope N ps scope) (G:A.handled=none) (g:Env0 P w K mg base A outer s H) (hl:vs.length=ps.length) (r:Vals vs us)
  (x:InCallC s s.heap.objs.size (bindL (envOfC qual scope s.heap.objs.size f o).kindOf (ps.zip us) λ_=>none) (cellsFrom (s.heap.objs.size+1) scope.names []) (bindC (envOfC qual scope s.heap.objs.size f o).kindOf (ps.zip us) λ_=>none) D) :
  Inv (qe7 CX P w K mg base N qual scope f o A outer s H E) [] (jP N vs) H D:=by
 have I:ps.length<=N.length:=by have:=congrArg List.length S.pre;rw[Yc] at this;lk
 obtain⟨h1,tk,rfl,B⟩:=x.done;have j:∀ b:Addr,b∉(qe7 CX P w K mg base N qual scope f o A outer s H E).ex:=λb z=>absurd (show b∈([]:LX) from z) (by simp);show⟨⟨g.mod,S.kind,rfl,rfl,yg _,λy z c h1 d=>?_,λy hy=>?_,λy c _ h=>?_,λ_=>G,Around.frames_deeper g.frames,.inr ⟨rfl,rfl⟩,λb z=>absurd z (j b),g.bs,g.bsz,λb _ _=>j b,λb z=>absurd z (j b),g.funs,g.frf⟩,
  rfl,g.bare,Un.kept B,⟨_,x.toInCall.ns,λi y v h1 d L=>?_⟩,λy c h=>⟨_,x.cell y c h⟩,g.hok.fresh (yg _),λy c h=>?_,λp l=>absurd (show p∈([]:List (Addr×Obj)) from l) (by simp),g.hok.kept B,?_⟩
 .show name_of_addr x.apart (Yx h1) (Yx d)
 .have hy:scope.names.lookup y=some .cell\/scope.names.lookup y=some .free:=hy;rcases hy with hy | hy
  .show qdF hy
  .show absurd rfl (S.nofree _ (Yx hy))
 .show Ym (x.above y c (Yx h))
 .have t:i<vs.length:=by
   unfold jP at d;by_cases t:i<vs.length
   .show t
   .rw [yS (by simpa using t)] at d;rw[Xa] at d;split at d<;>cases d
  have F:vs[i]?=some v:=by
   unfold jP at d;rw[yQ (by simpa using t),yd] at d
   cases e:vs[i]? with
   | none=>rw[e] at d;cases d
   | some a=>rw[e] at d;cases d;rfl
  obtain⟨u,C,J⟩:=r.get F
  have l:ps[i]?=some y:=by
   rw[<- S.pre,List.getElem?_take_of_lt (by lk)];show h1
  have m:ps.Nodup:=by rw[<- S.pre];show S.nd.sublist (List.take_sublist _ _)
  show⟨u,J,?_⟩;rcases S.par y (ye l) with k | k
  .show .inl ⟨k,qcH m l C k⟩
  .obtain⟨c,e⟩:=qdF (n:=s.heap.objs.size+1) k;show .inr ⟨.inl k,c,e,?_⟩;have q:=x.cell y c e;rw[qcI m l C (by show scope.names.lookup y≠_;rw[k];decide)] at q;show q
 .show g.hok.fresh (Ym (x.above y c (Yx h)))
 .unfold jP;show _=N.length;rw[yx,ya,YB];lk
theorem qgv{K:yf}{k:Nat}{f:Addr}{name:Str}{c:Arguments}{M kV j O a ct oc:Value}{L od:Option Addr}
  {D:Array (Option Value)} {sp:Sp} (lk:K.lookup f=some ⟨oc,od,.func (PySem.W.fnOf name qual c body scope M kV j O L a ct),D⟩) (z:PySem.W.codeIn K a qual=true) (S:FnScope N ps scope)
  (len:∀ vs H Q E,sp vs H Q E->vs.length=ps.length)
  (g:∀(A:Around) (outer:List Env) (s:Shared) (H:Hp) (vs:List V) (Q:VK) (E:XK),Room k (A.deeper (envOfC qual scope s.heap.objs.size f a))->sp vs H Q E ->
   ∃ t,PSs (qe7 CX P w K mg base N qual scope f a A outer s H E) body t/\t { nx:=λ_ H'=>Q .non H',rt:=Q } (jP N vs) H) :
  FnOk P w K mg base CX (k+1) f (PySem.W.fnOf name qual c body scope M kV j O L a ct) ps sp:=by
 show⟨len,λA outer s H args us vs Q E B l hb r p=>?_⟩;have hl:=len _ _ _ _ p;have G:K.In s.heap:=l.mod.kin.keeps λb o e=>(l.bs b o e).1;have C:s.heap.NoLimit:=l.mod.nolimit.keeps λb o e=>(l.bs b o e).1
 have h:∀ y∈ps.zip us,scope.names.lookup y.1=some .local\/(scope.names.lookup y.1=some .cell/\((cellsFrom (s.heap.objs.size+1) scope.names []).lookup y.1).isSome=true):=λ⟨n,v⟩ Z=>by
  rcases S.par n (XI Z).1 with q | q
  .show .inl q
  .show .inr ⟨q,Xf _ _ _ (.inl q)⟩
 show codeAny_call_function B.depth (G _ _ lk) rfl S.co S.gen rfl (PySem.W.codeRec_of G z) (hb _ _ _ _ ?_);show wpAny_newFunctionEnv_cells S.kind h λenv U R x=>?_;subst U;show⟨C.keeps x.toInCall.keep,codeAny_func ?_⟩;obtain⟨t,Y,X⟩:=g A outer s H vs Q E (B.deeper _) p;have I:Inv (qe7 CX P w K mg base N qual scope f a A outer s H E) [] (jP N vs) H R:=qcJ S B.hd l hl r x;show Yd (Y [] R (jP N vs) H _ I X) (λT s' i=>?_) λe s' i=>i
 have m:∀{d:St} {H':Hp} {v:V} {u:Value},Inv (qe7 CX P w K mg base N qual scope f a A outer s H E) [] d H' s'->RelV v u->Q v H'->CE outer P w H s Q u s':=
  λ{d H' v u} J F q=>⟨v,H',J.os,J.bare,J.base,J.hok,F,q⟩
 cases T with
 | ret u =>
  obtain⟨v,d,H',J,F,q⟩:=i;show m J F q
 | next =>
  obtain⟨d,H',J,q⟩:=i;show m (v:=V.non) (u:=Value.none) J rfl q
 | brk =>
  obtain⟨_,_,_,q⟩:=i;show False.elim q
 | cont =>
  obtain⟨_,_,_,q⟩:=i;show False.elim q
section
variable{X:Cx}{x:Str}{p pos:Pos}{e:Expr}{es:List Expr}{t:TA}{id T:String}{r:List V->Hp->VK->Prop}
def tCB(r:List V->Hp->VK->Prop)(t:TA):TE:=fun σ H Q=>t σ H λvs a=>r vs a Q
theorem qi(hc:zX X (.builtin id) r)(i:Gl X x)(j:X.mg x=none)(hv:bootBuiltins x=some (.builtin id))(f:PA X (e::es) t)(l:x≠"__name__":=by decide)(a:(x==("__debug__":Str))=false:=by decide)
  (g:starEach (e::es) X.env=(false,eval e X.env)::starEach es X.env:=by rfl) (b:(backTo pos (starEach es X.env)).any (·.1)=false:=by rfl):PE X (.Call (.Name x p) (e::es) [] pos) (tCB r t):=by
 intro pins s σ H Q I h;show Yr (qcw I i j hv ?_ l a);show PyProof.Rows.callWith_builtin1 (thn (f pos pins s σ H _ I h) λus o ⟨vs,c,d,n,m⟩=>hc pins o σ c vs us Q d n m) g b
theorem zr(hc:zX X (.type T) r)(i:Gl X x)(j:X.mg x=none)(hv:bootBuiltins x=some (.type T))(f:PA X (e::es) t)(l:x≠"__name__":=by decide)(a:(x==("__debug__":Str))=false:=by decide)
  (g:starEach (e::es) X.env=(false,eval e X.env)::starEach es X.env:=by rfl) (b:(backTo pos (starEach es X.env)).any (·.1)=false:=by rfl):PE X (.Call (.Name x p) (e::es) [] pos) (tCB r t):=by
 intro pins s σ H Q I h;show Yr (qcw I i j hv ?_ l a);show PyProof.Rows.callWith_type1 (thn (f pos pins s σ H _ I h) λus o ⟨vs,c,d,n,m⟩=>hc pins o σ c vs us Q d n m) g b
end
end L2
namespace HT
open PySem PyProof.Rows
variable{hi lo:Option Int}{sl t:Addr}{vl vu:Value}
def lexLt:LY->LY->Bool
 | [],[]=>false
 | [],_::_=>true
 | _::_,[]=>false
 | x::xs,y::ys=>if x=y then lexLt xs ys else decide (x<y)
section
open PySem.SeqAt
open PySem.AutoSeq1 (wpAny_loadPart')
open PySem.MeetsSeq PySem.MeetsSeq2 PySem.MeetsSeq3
end
section
variable{prog:Program}{w:World}{A:Around}{E:Value->Shared->Prop}{s:Shared}
theorem cat_tup{b:Addr}{vs a:List Value}{Q:Value->Shared->Prop}(r:IsTup s.heap t vs.toArray)(hb:IsTup s.heap b a.toArray)(hv:vs≠[])
  (h1:a=[]->Q (.ref t) s) (q:a≠[]->Q (.ref s.heap.objs.size) { s with heap:=s.heap.push { cls:=.type "tuple",data:=.seq (vs++a).toArray } })
  (hsz:vs.length+a.length<=sizeLine):wpAny (model prog w) A (binaryOp .Add (.ref t) (.ref b)) Q E s:=by
 obtain⟨⟨cls,m,data,sl⟩,i,hc,n,o⟩:=id r;obtain⟨⟨l,d,j,h⟩,c,f,p,g⟩:=id hb;simp only at hc o f g;subst hc o f g;have e:vs.toArray++a.toArray=(vs++a).toArray:=by simp
 by_cases hw:a=[]
 .show concat_meets ⟨_,i,rfl⟩ ⟨_,c,rfl⟩ noFill_tuple_add seq_tuple_add PySem.F.slot_tuple_add PySem.F.entry_tuple_add (PySem.F.args_tuple_add_2 _ _)
   (tuple_addW1 t b vs.toArray a.toArray n p m d sl h (by simpa using hv) (by simp[hw])) ⟨i,c,h1 hw⟩
 .show concat_meets ⟨_,i,rfl⟩ ⟨_,c,rfl⟩ noFill_tuple_add seq_tuple_add PySem.F.slot_tuple_add PySem.F.entry_tuple_add (PySem.F.args_tuple_add_2 _ _)
   (tuple_addW2 t b vs.toArray a.toArray n p m d sl h (by simpa using hv) (by simpa using hw) (by rw[yr,yr];show hsz)) ⟨i,c,?_⟩
  rw[e];show q hw
def sIx(n d:Nat):Option Int->Nat
 | none=>d
 | some v=>if v<0 then(v+(n:Int)).toNat else min v.toNat n
theorem sIx_none(n d:Nat):sIx n d none=d:=rfl
theorem sIx_nat(n d k:Nat):sIx n d (some (k:Int))=min k n:=by
 show(if (k:Int)<0 then((k:Int)+(n:Int)).toNat else min (k:Int).toNat n)=min k n;rw[yw (by lk),Yz]
theorem sIx_le(n d:Nat)(a:d<=n)(o:Option Int):sIx n d o<=n:=by
 cases o with
 | none=>show a
 | some v =>
  show(if v<0 then(v+(n:Int)).toNat else min v.toNat n)<=n;by_cases hv:v<0
  .rw [yB hv];lk
  .rw [yw hv];show kt _ _
theorem qer(v:Int)(n d:Nat):(if v<0 then max (v+(n:Int)) 0 else min v (n:Int))=((sIx n d (some v):Nat):Int):=by
 show(if v<0 then max (v+(n:Int)) 0 else min v (n:Int))=(((if v<0 then(v+(n:Int)).toNat else min v.toNat n):Nat):Int);by_cases hv:v<0
 .simp only[yB hv];lk
 .simp only[yw hv];lk
theorem adjust_gen(lo hi:Option Int)(n:Nat):Builtin.Slice.sliceAdjust lo hi 1 (n:Int)=(((sIx n 0 lo:Nat):Int),((sIx n n hi:Nat):Int)):=by
 have h1:¬ ((1:Int)<0):=by lk
 unfold Builtin.Slice.sliceAdjust;simp only[h1,ku];show kE ?_ ?_
 .cases lo with
  | none=>rfl
  | some v=>show qer v n 0
 .cases hi with
  | none=>rfl
  | some v=>show qer v n n
theorem places_gen(i j:Nat):Builtin.Slice.slicePlaces (i:Int) (j:Int) 1=j-i:=by
 unfold Builtin.Slice.slicePlaces;have h1:(1:Int)>0:=by lk
 simp only[h1,xI,kI];split<;>lk
theorem qbZ{v:Value}{o:Option Int}{Q:Option Int->Shared->Prop}(p:IsPart v o)(h:Q o s):wpAny (model prog w) A (Builtin.Slice.slicePartIndex v) Q E s:=by
 cases p with
 | none=>show slicePart_none h
 | int i t=>show slicePart_int h
theorem sliceApplied_gen{n:Nat}{Q:Int×Int×Nat->Shared->Prop}(d:s.heap.IsSliceOf sl vl vu .none)(pl:IsPart vl lo)(e:IsPart vu hi)
  (h:Q (((sIx n 0 lo:Nat):Int),1,sIx n n hi-sIx n 0 lo) s):wpAny (model prog w) A (Builtin.Slice.sliceApplied (.ref sl) (pure (n:Int))) Q E s:=by
 obtain⟨f,b,c,a⟩:=id d;unfold Builtin.Slice.sliceApplied Builtin.Slice.sliceFields;show yp (yp (Xb b a (x:=vl) rfl (yp (Xb b a (x:=vu) rfl (yp (Xb b a (x:=.none) rfl (yu ?_)))))));show yp (slicePart_none ?_);show wpAny _ _ (if ((1:Int)==0)=true then _ else _) _ _ s;rw[yw (by decide)];show yp (qbZ pl (yp (qbZ e (yp (yu ?_)))));show wpAny _ _ (match Builtin.Slice.sliceAdjust lo hi 1 (n:Int) with | (lo,hi)=>pure (lo,(1:Int),Builtin.Slice.slicePlaces lo hi 1)) _ _ s;rw[adjust_gen lo hi n];show wpAny _ _ (pure (((sIx n 0 lo:Nat):Int),(1:Int),Builtin.Slice.slicePlaces ((sIx n 0 lo:Nat):Int) ((sIx n n hi:Nat):Int) 1)) _ _ s;rw[places_gen];show yu h
theorem pick_gen(xs:Array Value)(i k:Nat):((List.range k).filterMap λ(m:Nat)=>xs[((i:Int)+(m:Int)*1).toNat]?).toArray=((xs.toList.drop i).take k).toArray:=by
 have e:(λ(m:Nat)=>xs[((i:Int)+(m:Int)*1).toNat]?)=λm=>xs[i+m]?:=by
  funext m;have:((i:Int)+(m:Int)*1).toNat=i+m:=by lk
  rw[this]
 rw[e];have:=pick_run xs i k;rw[List.filterMap_map] at this;have a:((λx=>xs[x]?) ∘ λx=>i+x)=λm=>xs[i+m]?:=rfl;rw[a] at this;rw[this]
theorem getItem_tuple_cut{a:Array Value}{Q:Value->Shared->Prop}(c:IsTup s.heap t a)(i:s.heap.IsSliceOf sl vl vu .none)(pl:IsPart vl lo)(n:IsPart vu hi)
  (hw:¬ (sIx a.size 0 lo=0/\sIx a.size a.size hi=a.size))
  (h:Q (.ref s.heap.objs.size) { s with heap:=s.heap.push { cls:=.type "tuple",data:=.seq ((a.toList.drop (sIx a.size 0 lo)).take (sIx a.size a.size hi-sIx a.size 0 lo)).toArray } })
  (hsz:a.size<=sizeLine):wpAny (model prog w) A (getItem (.ref t) (.ref sl)) Q E s:=by
 have b:sizeOk (.seq ((a.toList.drop (sIx a.size 0 lo)).take (sIx a.size a.size hi-sIx a.size 0 lo)).toArray):=by
  show((a.toList.drop (sIx a.size 0 lo)).take (sIx a.size a.size hi-sIx a.size 0 lo)).toArray.size<=sizeLine;rw[yr,Yc,xQ,xy];lk
 have o:sIx a.size a.size hi<=a.size:=sIx_le _ _ (yg _) hi;obtain⟨l,g,e,j⟩:=id i;have d:s.TypeIs (.ref sl) "slice":=⟨l,g,e⟩;unfold getItem
 try with_reducible show Yk ?_
 first | show yp (yu ?_) | skip
 show yp (wpAny_sequenceKey c.typeIs (by decide) ?_);show yp (wpAny_callSpecial?_slot (name:=Str.ofString "__getitem__") c.typeIs xx
  (Xw xx c.typeIs entry_tuple_getitem ?_ (args_tuple_getitem _ _)))
 show wpAny _ _ (Builtin.Tuple.tupleItemsOf (.ref t)>>=_) _ _ s;show yp (tupleItemsOf_ c ?_);show yp (wpAny_typeOf d ?_);rw[yB (by decide)];show yp (sliceApplied_gen i pl n ?_)
 have f:¬ ((((sIx a.size 0 lo:Nat):Int)==0&&(1:Int)==1&&(sIx a.size a.size hi-sIx a.size 0 lo)==a.size)=true):=by
  intro q;rw[yF,yF] at q;have p:((sIx a.size 0 lo:Nat):Int)=0:=eq_of_beq q.1.1;have r:sIx a.size a.size hi-sIx a.size 0 lo=a.size:=eq_of_beq q.2;show hw ⟨by lk,by lk⟩
 show wpAny _ _ (if (((sIx a.size 0 lo:Nat):Int)==0&&(1:Int)==1&&(sIx a.size a.size hi-sIx a.size 0 lo)==a.size)=true then _ else _) _ _ s;rw[yw f,pick_gen]
 first
  | show yp (m:=Builtin.Tuple.tupleExact _) (xr (yu ⟨_,rfl,yu h⟩) b)
  | show yp (m:=Builtin.Tuple.tupleExact _) (xr (yp (yu (yu ⟨_,rfl,yu h⟩))) b)
  | show yp (yp (m:=Builtin.Tuple.tupleExact _) (xr (yu (yu ⟨_,rfl,yu h⟩)) b))
  | show yp (yp (m:=Builtin.Tuple.tupleExact _) (xr (yu ⟨_,rfl,yu h⟩) b))
end
end HT
namespace L2
open PySem PySem.Spec PyProof.Rows
variable{A:Around}{H H':Hp}{P:Program}{a p:Addr}{h':Heap}{i:Int}{its its' us:List Value}{j n t':Nat}{kvs:List (List Key×V)}{o:Option V}{pins:List (Addr×Obj)}{r:R2}{s:Shared}{u v:Value}{w:World}{x y:V}{xs:List V}{α:Type}{σ:St}
abbrev TO:=St->Hp->(Option Int->Hp->Prop)->Prop
def PO(X:Cx)(e:Option Expr)(t:TO):Prop:=
 ∀(pins:List (Addr×Obj)) (s:Shared) (σ:St) (H:Hp) (Q:Option Int->Hp->Prop),Inv X pins σ H s->t σ H Q ->
  wpAny (model X.prog X.w) X.A (evalPart e X.env) (λu s'=>∃ o H',Inv X pins σ H' s'/\IsPart u o/\Q o H') X.xe s
def qes:TO:=λ_ H Q=>Q none H
def qgw(t:TE):TO:=fun σ H Q=>t σ H λx a=>∃ i,x=.int i/\Q (some i) a
section
variable{X:Cx}{e:Expr}{te:TE}{lo hi:Option Expr}{tl th:TO}{pos p2:Pos}
theorem qaw:PO X none qes:=by
 intro pins s σ H Q I h;rw[evalPart_none];show yu ⟨none,H,I,.none,h⟩
theorem zy(h:PE X e te):PO X (some e) (qgw te):=by
 intro pins s σ H Q I hw;rw[evalPart_some];show thn (h pins s σ H _ I hw) λu f ⟨x,a,b,d,c⟩=>?_;obtain⟨i,rfl,q⟩:=c;obtain⟨t,rfl⟩:=d;show⟨some i,a,b,.int i t,q⟩
def SlR(X:Cx)(r:V->Option Int->Option Int->Hp->VK->Prop):Prop:=
 ∀(pins:List (Addr×Obj)) (s:Shared) (σ:St) (H:Hp) (x:V) (v b c:Value) (lo hi:Option Int) (a:Addr) (Q:VK),Inv X pins σ H s->RelV x v->s.heap.IsSliceOf a b c .none->IsPart b lo->IsPart c hi->r x lo hi H Q ->
  ∃ T id,typeLookup (.type T) "__getitem__"=pure (some (.builtin id))/\s.TypeIs v T/\wpAny (model X.prog X.w) X.A (getItem v (.ref a)) (EP X pins σ Q) X.xe s
def tSl(r:V->Option Int->Option Int->Hp->VK->Prop)(te:TE)(tl th:TO):TE:=fun σ H Q=>te σ H λx a=>tl σ a λl b=>th σ b λu c=>r x l u c Q
theorem j9{r:V->Option Int->Option Int->Hp->VK->Prop}(z:SlR X r)(t:PE X e te)(hl:PO X lo tl)(C:PO X hi th):PE X (.Subscript e (.Slice lo hi none p2) pos) (tSl r te tl th):=by
 intro pins s σ H Q I h;show Subscript_ (thn (t pins s σ H _ I h) λv K ⟨x,g,j,J,E⟩=>?_);show wpAny_Slice (thn (hl pins K σ g _ j E) λc L ⟨l,i,m,pl,F⟩=>thn (C pins L σ i _ m F) λd a ⟨u,f,n,D,G⟩=>?_);rw[evalPart_none];show yu ?_;have o:Inv X pins σ f { a with heap:=a.heap.push { cls:=.type "slice",data:=.fields #[c,d,.none] } }:=n.kept (t':=a.toks) λb M q=>yq _ q;obtain⟨T,id,p,B,y⟩:=z pins { a with heap:=a.heap.push { cls:=.type "slice",data:=.fields #[c,d,.none] } } σ f x v c d l u a.heap.objs.size Q o J (Heap.IsSliceOf.new ..) pl D G;show wpAny (model X.prog X.w) X.A (subscriptTail e (.Slice lo hi none p2) v (.ref a.heap.objs.size)) (EP X pins σ Q) X.xe { a with heap:=a.heap.push { cls:=.type "slice",data:=.fields #[c,d,.none] } };show tail_any (ops:=[.ref a.heap.objs.size,v]) B p y (by with_unfolding_all rfl)
def qbm(xs:List V)(lo hi:Option Int):List V:=(xs.drop (HT.sIx xs.length 0 lo)).take (HT.sIx xs.length xs.length hi-HT.sIx xs.length 0 lo)
theorem qby(xs:List V)(lo hi:Option Int):(qbm xs lo hi).length<=xs.length:=by
 unfold qbm;rw[Yc,xQ];lk
inductive rSlT(K:yf)(x:V)(lo:Option Int)(hi:Option Int)(H:Hp)(Q:VK):Prop|mk (a xs:_) (_:x=.ref a) (_:SqT K H a xs) (_:¬ (HT.sIx xs.length 0 lo=0/\HT.sIx xs.length xs.length hi=xs.length)) (_:∀ p,H p=none->Q (.ref p) (upd H p (.tup (qbm xs lo hi))))
theorem sl_tup:SlR X (rSlT X.K):=by
 intro pins s σ H x v n p lo hi m Q I j f pl i h;obtain⟨a,xs,rfl,g,hw,q⟩:=h;cases j;obtain⟨its,r,d,e⟩:=I.tuple g;have c:its.toArray.size=xs.length:=by rw[yr];show r.length.symm
 show⟨"tuple",_,xx.lookup,d.typeIs,?_⟩;show HT.getItem_tuple_cut d f pl i (by rw[c];show hw) ?_ (by rw[c];show e);rw[c];show⟨.ref s.heap.objs.size,_,I.laid (t':=s.toks) (o:=.tup (qbm xs lo hi)) (λb l q=>yq _ q) (yg _) ?_,rfl,q _ (I.hok.fresh (yg _))⟩;show⟨yh (qby xs lo hi) e,_,(r.drop (HT.sIx xs.length 0 lo)).take (HT.sIx xs.length xs.length hi-HT.sIx xs.length 0 lo),IsTup.new _ _⟩
inductive rLtT(K:yf)(x:V)(y:V)(H:Hp)(Q:VK):Prop|mk (a b ns ms:_) (_:x=.ref a) (_:y=.ref b) (_:SqT K H a (ns.map V.int)) (_:SqT K H b (ms.map V.int)) (_:Q (.bl (HT.lexLt ns ms)) H)
inductive rCatT(K:yf)(x:V)(y:V)(H:Hp)(Q:VK):Prop|mk (a b xs ys:_) (_:x=.ref a) (_:y=.ref b) (_:SqT K H a xs) (_:SqT K H b ys) (_:xs≠[]) (_:xs.length+ys.length<=sizeLine) (_:(ys=[]->Q (.ref a) H)) (_:(ys≠[]->∀ p,H p=none->Q (.ref p) (upd H p (.tup (xs++ys)))))
theorem Vals.nil_iff(r:Vals xs us):us=[]↔xs=[]:=by
 cases r with
 | nil=>simp
 | cons _ _=>simp
theorem op_catT:OpR X (binaryOp .Add) (rCatT X.K):=by
 intro pins s σ H x y v u Q I n p h;obtain⟨a,b,xs,ys,rfl,rfl,g,hb,i,e,l,m⟩:=h;cases n;cases p;obtain⟨its,d,j,_⟩:=I.tuple g;obtain⟨f,c,p2,_⟩:=I.tuple hb;show HT.cat_tup j p2 (λz=>i (d.nil_iff.mp z)) (λz=>⟨.ref a,H,I,rfl,l (c.nil_iff.mp z)⟩) (λz=>?_) (by rw[<- d.length,<- c.length];show e);show⟨.ref s.heap.objs.size,_,I.laid (t':=s.toks) (o:=.tup (xs++ys)) (λb r q=>yq _ q) (yg _) ?_,rfl,m (λw=>z (c.nil_iff.mpr w)) _ (I.hok.fresh (yg _))⟩;show⟨by rw[yx];show e,_,d.append c,IsTup.new _ _⟩
end
def ixN(n:Nat)(i:Int):Option Nat:=if 0<=i then(if i<n then some i.toNat else none) else if -(n:Int)<=i then some (i+n).toNat else none
def atI{α:Type}(xs:List α)(i:Int):Option α:=(ixN xs.length i).bind λj=>xs[j]?
theorem qde(h:ixN n i=some j):seqIndex? i n=some j/\j<n/\-(n:Int)<=i/\i<n:=by
 unfold ixN at h;by_cases a:0<=i
 .rw [yB a] at h;by_cases h1:i<n
  .rw [yB h1] at h;have e:i.toNat=j:=yl h;show⟨by rw[seqIndex_of a h1,e],by lk,by lk,h1⟩
  .rw [yw h1] at h;cases h
 .rw [yw a] at h;by_cases h1:-(n:Int)<=i
  .rw [yB h1] at h;have e:(i+n).toNat=j:=yl h;show⟨by rw[seqIndex_neg (by lk) h1,e],by lk,h1,by lk⟩
  .rw [yw h1] at h;cases h
theorem qdf{xs:List α}{v:α}(h:atI xs i=some v):∃ j,seqIndex? i xs.length=some j/\xs[j]?=some v/\j<xs.length/\-(xs.length:Int)<=i/\i<xs.length:=by
 unfold atI at h
 cases e:ixN xs.length i with
 | none=>rw[e] at h;cases h
 | some j =>
  rw[e] at h;obtain⟨h1,a,b,c⟩:=qde e;show⟨j,h1,h,a,b,c⟩
theorem qW{xs:List α}{v:α}(h:xs[j]?=some v):atI xs (j:Int)=some v:=by
 have a:j<xs.length:=(yc.mp h).1
 have e:ixN xs.length (j:Int)=some j:=by
  unfold ixN;rw[yB (by lk),yB (by lk)];simp
 unfold atI;rw[e];show h
def PlainIx(b:Expr):Prop:=∀ o i,subscripted b false o i=operate [o,i] (getItem o i)
def IxR(X:Cx)(r:R2):Prop:=
 ∀(b a:Expr) (pins:List (Addr×Obj)) (s:Shared) (σ:St) (H:Hp) (x y:V) (v u:Value) (Q:VK),Inv X pins σ H s->RelV x v->RelV y u->r x y H Q ->
  subscripted a false v u=operate [v,u] (getItem v u)->wpAny (model X.prog X.w) X.A (subscriptTail b a v u) (EP X pins σ Q) X.xe s
def MtR(X:Cx)(id:String)(r:V->List V->Hp->VK->Prop):Prop:=
 ∀(pins:List (Addr×Obj)) (s:Shared) (σ:St) (H:Hp) (x:V) (xs:List V) (v:Value) (us:List Value) (Q:VK),Inv X pins σ H s->RelV x v->Vals xs us->r x xs H Q ->
  wpAny (model X.prog X.w) X.A (call (.builtin id) (v::us)) (EP X pins σ Q) X.xe s
section
variable{X:Cx}{a b:Expr}{ta tb:TE}{pos:Pos}
theorem IxR.or{d:R2}(h:IxR X r)(h':IxR X d):IxR X (λx y H Q=>r x y H Q\/d x y H Q):=by
 intro b a pins s σ H x y v u Q I e f q c;rcases q with q | q
 .show h b a pins s σ H x y v u Q I e f q c
 .show h' b a pins s σ H x y v u Q I e f q c
theorem qG(f:IxR X r)(e:PE X a ta)(hb:PE X b tb)(g:PlainIx b):PE X (.Subscript a b pos) (tOp r ta tb):=by
 intro pins s σ H Q I h;show Subscript_ (qhb e hb I h λv u l x y c d i j q=>f a b pins l σ c x y v u Q d i j q (g _ _))
inductive rIxL(K:yf)(x:V)(y:V)(H:Hp)(Q:VK):Prop|mk (p xs i v:_) (_:x=.ref p) (_:y=.int i) (_:SqL K H p xs) (_:atI xs i=some v) (_:Q v H)
inductive rIxT(K:yf)(x:V)(y:V)(H:Hp)(Q:VK):Prop|mk (p xs i v:_) (_:x=.ref p) (_:y=.int i) (_:SqT K H p xs) (_:atI xs i=some v) (_:Q v H)
inductive rIxS(x:V)(y:V)(H:Hp)(Q:VK):Prop|mk (z i c:_) (_:x=.str z) (_:y=.int i) (_:z.length<=sizeLine) (_:atI z.cps.toList i=some c) (_:Q (.str ⟨#[c]⟩) H)
theorem ix_list:IxR X (rIxL X.K):=by
 intro e d pins s σ H x y v u Q I C D h l;obtain⟨p,xs,i,z,rfl,rfl,B,A,q⟩:=h;cases C;obtain⟨t,rfl⟩:=D;obtain⟨its,r,pl,G⟩:=I.list B;obtain⟨j,h1,m,E,n,o⟩:=qdf A;obtain⟨w,f,c⟩:=r.get m;have hl:=r.length;have F:=qbY;have a:EP X pins σ Q w s:=⟨z,H,I,c,q⟩;by_cases g:0<=i
 .have b:i.toNat=j:=by
   rw[seqIndex_of g o] at h1;show yl h1
  show item_listR pl.isList g (by lk) (by rw[b];simpa using f) a l
 .have b:(i+(its.toArray.size:Int)).toNat=j:=by
   rw[seqIndex_neg (by lk) n] at h1;rw[yr,<- hl];show yl h1
  show subscriptTail_builtinR (x:=w) pl.isList.typeIs slot_list_getitem.lookup
   (wpAny_getItem_list_neg (Q:=λr s'=>r=w/\EP X pins σ Q r s') pl.isList (by lk) (by rw[yr]<;>lk) (by lk) (by rw[b];simpa using f) ⟨rfl,a⟩) l
theorem ix_tup:IxR X (rIxT X.K):=by
 intro d c pins s σ H x y v u Q I n o h m;obtain⟨p,xs,i,z,rfl,rfl,l,g,q⟩:=h;cases n;obtain⟨t,rfl⟩:=o;obtain⟨its,r,pl,E⟩:=I.tuple l;obtain⟨j,h1,f,A,B,C⟩:=qdf g;obtain⟨w,e,b⟩:=r.get f;have hl:=r.length;have D:=qbY;have a:EP X pins σ Q w s:=⟨z,H,I,b,q⟩;show subscriptTail_builtinR (x:=w) pl.typeIs slot_tuple_getitem.lookup
  (getItem_tuple (j:=j) (Q:=λr s'=>r=w/\EP X pins σ Q r s') pl (by lk) (by lk) (by rw[yr,<- hl];show h1) (by simpa using e) ⟨rfl,a⟩) m
theorem ix_str:IxR X rIxS:=by
 intro b a pins s σ H x y v u Q I o p h n;obtain⟨z,i,c,rfl,rfl,A,m,q⟩:=h;obtain⟨t,rfl⟩:=o;obtain⟨t',rfl⟩:=p;obtain⟨j,h1,f,r,g,l⟩:=qdf m;have hl:z.cps.toList.length=z.length:=by simp[Str.length]
 rw[hl] at h1 g l;have w:=qbY
 show tail_any (xY s z t) slot_str_getitem.lookup (getItem_str (c:=c) (by
  have d:decide (i < -(2 ^ 63:Int))=false:=yk (by lk);have e:decide (i ≥ 2 ^ 63)=false:=yk (by lk);rw[d,e,kG]) (by rw[h1];simpa using f) ⟨.str ⟨#[c]⟩,H,I.tok _,⟨_,rfl⟩,q⟩) n
def rIx(K:yf):R2:=λx y H Q=>rIxL K x y H Q\/rIxT K x y H Q\/rIxS x y H Q
theorem ix_seq:IxR X (rIx X.K):=ix_list.or (ix_tup.or ix_str)
theorem mapSeq_set(its:List Value)(n j:Nat)(u:Value):Obj.mapSeq (·.setIfInBounds j u) { cls:=.type "list",data:=.seq its.toArray n }={ cls:=.type "list",data:=.seq (its.set j u).toArray n }:=by
 simp[Obj.mapSeq]
theorem Inv.lst(I:Inv X pins σ H s)(h:H p=some (.lst xs)) :
  ∃(its:List Value) (n:Nat),Vals xs its/\s.heap.get? p=some { cls:=.type "list",data:=.seq its.toArray n }/\xs.length<=sizeLine:=by
 obtain⟨z,its,n,r,e⟩:=I.hok p _ h;show⟨its,n,r,e,z⟩
theorem Inv.lstUpd{ys:List V}{a:Nat}{f:Obj->Obj}(I:Inv X pins σ H s)(h:H p=some (.lst xs))
  (d:s.heap.get? p=some { cls:=.type "list",data:=.seq its.toArray n }) (c:f { cls:=.type "list",data:=.seq its.toArray n }={ cls:=.type "list",data:=.seq its'.toArray a }) (r:Vals ys its') (g:ys.length<=sizeLine) (t:Nat) :
  Inv X pins σ (upd H p (.lst ys)) { s with heap:=s.heap.update p f,toks:=t }:=by
 have e:(s.heap.update p f).get? p=some { cls:=.type "list",data:=.seq its'.toArray a }:=by
  rw[xl f d (by rw[c]<;>rfl),c]
 show I.write (x:=p) (e:=p) (by rw[h];trivial) (.inl rfl) (λb u hb q=>(Yg _ _ (YW hb)).trans q) ⟨_,e⟩ ?_;show⟨g,its',a,r,e⟩
inductive rSetL(o:V)(i:V)(v:V)(H:Hp)(Q:(Hp->Prop)):Prop|mk (p xs k j:_) (_:o=.ref p) (_:i=.int k) (_:H p=some (.lst xs)) (_:ixN xs.length k=some j) (_:Q (upd H p (.lst (xs.set j v))))
theorem set_list:qg9 X rSetL:=by
 intro pins s σ H o i v C B u Q I x w y h;obtain⟨p,xs,k,j,rfl,rfl,g,l,q⟩:=h;cases x;obtain⟨t,rfl⟩:=w;obtain⟨its,n,r,b,m⟩:=I.lst g;obtain⟨h1,z,e,f⟩:=qde l;have hl:=r.length;have A:=qbY
 have c:Inv X pins σ (upd H p (.lst (xs.set j v))) { s with heap:=s.heap.update p (Obj.mapSeq (·.setIfInBounds j u)) }:=
  I.lstUpd g b (mapSeq_set its n j u) (r.set y j) (by rw[List.length_set];show m) s.toks
 by_cases d:0<=k
 .have a:k.toNat=j:=by
   rw[seqIndex_of d f] at h1;show yl h1
  show PySem.W.ki_setAt b d (by lk) (by rw[yr,<- hl];show f) (by rw[a];show⟨_,c,q⟩)
 .have a:(k+(its.toArray.size:Int)).toNat=j:=by
   rw[seqIndex_neg (by lk) e] at h1;rw[yr,<- hl];show yl h1
  show PySem.W.ki_setBack b (by lk) (by rw[yr,<- hl];show e) (by lk) (by rw[a];show⟨_,c,q⟩)
theorem slice_bounds(lo a:Option Int)(n:Nat):(sliceBounds lo a none n).1=((HT.sIx n 0 lo:Nat):Int)/\(sliceBounds lo a none n).2.1=((HT.sIx n n a:Nat):Int)/\(sliceBounds lo a none n).2.2=1:=by
 show⟨?_,?_,rfl⟩
 .cases lo with
  | none=>simp[sliceBounds,HT.sIx]
  | some i =>
   simp only[sliceBounds,HT.sIx,Option.getD_none,show(1:Int)>0 by decide,xI];by_cases h:i<0
   .simp only[h,xI]<;>lk
   .simp only[h,ku]<;>lk
 .cases a with
  | none=>simp[sliceBounds,HT.sIx]
  | some i =>
   simp only[sliceBounds,HT.sIx,Option.getD_none,show(1:Int)>0 by decide,xI];by_cases h:i<0
   .simp only[h,xI]<;>lk
   .simp only[h,ku]<;>lk
theorem slicePick_cut(its:List Value)(lo a:Option Int):slicePick its.toArray lo a none=((its.drop (HT.sIx its.length 0 lo)).take (HT.sIx its.length its.length a-HT.sIx its.length 0 lo)).toArray:=by
 obtain⟨h1,b,c⟩:=slice_bounds lo a its.toArray.size;unfold slicePick;rw[h1,b,c];simp only[sliceRange_one,pick_run,yr]<;>rfl
inductive rSlL(K:yf)(x:V)(lo:Option Int)(hi:Option Int)(H:Hp)(Q:VK):Prop|mk (a xs:_) (_:x=.ref a) (_:SqL K H a xs) (_:∀ p,H p=none->Q (.ref p) (upd H p (.lst (qbm xs lo hi))))
theorem sl_list:SlR X (rSlL X.K):=by
 intro pins s σ H x v p t lo d n Q I l f pl j h;obtain⟨a,xs,rfl,g,q⟩:=h;cases l;obtain⟨its,r,e,i⟩:=I.list g;have c:=r.length;show⟨"list",_,slot_list_getitem.lookup,e.isList.typeIs,?_⟩;show wpAny_getItem_list_slice e.isList f pl j .none (by simp) ?_ (by rw[yr]<;>lk);rw[slicePick_cut,<- c];show⟨.ref s.heap.objs.size,_,I.laid (t':=s.toks) (o:=.lst (qbm xs lo d)) (λb m q=>yq _ q) (yg _) ?_,rfl,q _ (I.hok.fresh (yg _))⟩;show⟨yh (qby xs lo d) i,_,0,(r.drop (HT.sIx xs.length 0 lo)).take (HT.sIx xs.length xs.length d-HT.sIx xs.length 0 lo),yI _ rfl⟩
def qM:V->Bool
 | .non=>true
 | .bl _=>true
 | .int _=>true
 | .str _=>true
 | _=>false
def eqV:V->V->Bool
 | .non,.non=>true
 | .bl a,.bl b=>a==b
 | .bl a,.int b=>(if a then 1 else 0)==b
 | .int a,.bl b=>a==(if b then 1 else 0)
 | .int a,.int b=>a==b
 | .str a,.str b=>a==b
 | _,_=>false
theorem qet(e:RelV y u)(c:RelV x v)(f:qM y=true)(d:qM x=true):SeqAt.EqAt A s u v (eqV y x):=by
 cases y with
 | non =>
  cases e
  cases x with
  | non=>cases c;show XJ _
  | bl b=>cases c;show SeqAt.EqAt.none_bool b
  | int b=>obtain⟨t,rfl⟩:=c;show SeqAt.EqAt.none_int b t
  | str b=>obtain⟨t,rfl⟩:=c;show SeqAt.EqAt.none_str b t
  | _=>show absurd (show false=true from d) yV
 | bl a =>
  cases e
  cases x with
  | non=>cases c;show SeqAt.EqAt.bool_none a
  | bl b=>cases c;show SeqAt.EqAt.bool_bool a b
  | int b=>obtain⟨t,rfl⟩:=c;show SeqAt.EqAt.bool_int a b t
  | str b=>obtain⟨t,rfl⟩:=c;show SeqAt.EqAt.bool_str a b t
  | _=>show absurd (show false=true from d) yV
 | int a =>
  obtain⟨t',rfl⟩:=e
  cases x with
  | non=>cases c;show SeqAt.EqAt.int_none a t'
  | bl b=>cases c;show SeqAt.EqAt.int_bool a t' b
  | int b=>obtain⟨t,rfl⟩:=c;show SeqAt.EqAt.int_int a t' b t
  | str b=>obtain⟨t,rfl⟩:=c;show SeqAt.EqAt.int_str a t' b t
  | _=>show absurd (show false=true from d) yV
 | str a =>
  obtain⟨t',rfl⟩:=e
  cases x with
  | non=>cases c;show SeqAt.EqAt.str_none a t'
  | bl b=>cases c;show SeqAt.EqAt.str_bool a t' b
  | int b=>obtain⟨t,rfl⟩:=c;show SeqAt.EqAt.str_int a t' b t
  | str b=>obtain⟨t,rfl⟩:=c;show SeqAt.EqAt.str_str a t' b t
  | _=>show absurd (show false=true from d) yV
 | _=>show absurd (show false=true from f) yV
def eqU(x:V)(u:Value):Bool:=match u with
 | .none=>eqV .non x
 | .bool b=>eqV (.bl b) x
 | .int i _=>eqV (.int i) x
 | .str z _=>eqV (.str z) x
 | _=>false
theorem qeu(r:RelV y u)(f:qM y=true):eqU x u=eqV y x:=by
 cases y with
 | non=>cases r;rfl
 | bl b=>cases r;rfl
 | int i=>obtain⟨t,rfl⟩:=r;rfl
 | str z=>obtain⟨t,rfl⟩:=r;rfl
 | _=>show absurd (show false=true from f) yV
theorem qbz:∀{xs:List V} {us:List Value},Vals xs us->xs.all qM=true->us.any (eqU x)=xs.any λy=>eqV y x
 | _,_,.nil,_=>rfl
 | y::xs,u::us,.cons r t,f=>by
  rw[ko,yF] at f;rw[XB,XB,qeu r f.1,qbz t f.2]
theorem qal(b:RelV x v)(a:qM x=true):∀{xs:List V} {us:List Value},Vals xs us->xs.all qM=true->∀ u∈us,SeqAt.EqAt A s u v (eqU x u)
 | _,_,.nil,_=>λu hu=>by cases hu
 | y::xs,u::us,.cons r t,f=>λc hu=>by
  rw[ko,yF] at f;rcases yt.mp hu with rfl | hu
  .rw [qeu r f.1];show qet r b f.1 a
  .show qal b a t f.2 c hu
def inV(x:V)(xs:List V):Bool:=xs.any λy=>eqV y x
inductive rIn(K:yf)(neg:Bool)(x:V)(y:V)(H:Hp)(Q:VK):Prop|mk (p xs:_) (_:y=.ref p) (_:(SqL K H p xs\/SqT K H p xs)) (_:qM x=true) (_:xs.all qM=true) (_:Q (.bl (if neg then !inV x xs else inV x xs)) H)
theorem op_in_seq:OpR X (compareOp .In) (rIn X.K false):=by
 intro pins s σ H x y v u Q I b d h;obtain⟨p,xs,rfl,hq,a,fs,q⟩:=h;cases d;rcases hq with hq | hq
 .obtain⟨its,r,pl,c⟩:=I.list hq;show SeqAt.in_listAt (eqU x) pl.isList (λw hw=>qal b a r fs w (by simpa using hw)) ⟨.bl _,H,I,rfl,?_⟩;rw[show its.toArray.any (eqU x)=its.any (eqU x) by simp,qbz r fs];show q
 .obtain⟨its,r,pl,c⟩:=I.tuple hq;show SeqAt.in_tupleAt (eqU x) pl (λw hw=>qal b a r fs w (by simpa using hw)) ⟨.bl _,H,I,rfl,?_⟩;rw[show its.toArray.any (eqU x)=its.any (eqU x) by simp,qbz r fs];show q
theorem op_notIn_seq:OpR X (compareOp .NotIn) (rIn X.K true):=by
 intro pins s σ H x y v u Q I b d h;obtain⟨p,xs,rfl,hq,a,fs,q⟩:=h;cases d;rcases hq with hq | hq
 .obtain⟨its,r,pl,c⟩:=I.list hq;show ke (eqU x) pl.isList (λw hw=>qal b a r fs w (by simpa using hw)) ⟨.bl _,H,I,rfl,?_⟩;rw[show its.toArray.any (eqU x)=its.any (eqU x) by simp,qbz r fs];show q
 .obtain⟨its,r,pl,c⟩:=I.tuple hq;show SeqAt.notIn_tupleAt (eqU x) pl (λw hw=>qal b a r fs w (by simpa using hw)) ⟨.bl _,H,I,rfl,?_⟩;rw[show its.toArray.any (eqU x)=its.any (eqU x) by simp,qbz r fs];show q
theorem call_len_seq:zX X (.builtin "len") (λxs H Q=>∃ p ys,xs=[.ref p]/\(SqL X.K H p ys\/SqT X.K H p ys)/\Q (.int ys.length) H):=by
 intro pins s σ H xs us Q I r h;obtain⟨p,ys,rfl,hq,q⟩:=h;obtain⟨u,rfl,d⟩:=qcB r;cases d;have e:=qbY;rcases hq with hq | hq
 .obtain⟨its,b,pl,c⟩:=I.list hq;have a:=b.length;show Calls.call_len_list pl.isList (by simp only[yr]<;>lk) ⟨.int ys.length,H,I.tok _,⟨s.toks+1,by rw[yr,a]⟩,q⟩
 .obtain⟨its,b,pl,c⟩:=I.tuple hq;have a:=b.length;show len_tuple pl (by simp only[yr]<;>lk) ⟨.int ys.length,H,I.tok _,⟨s.toks+1,by rw[yr,a]⟩,q⟩
theorem call_len_str:zX X (.builtin "len") (λxs H Q=>∃ z,xs=[.str z]/\z.length<=sizeLine/\Q (.int z.length) H):=by
 intro pins s σ H xs us Q I r h;obtain⟨z,rfl,b,q⟩:=h;obtain⟨u,rfl,t,rfl⟩:=qcB r;have a:=qbY;show len_str (by lk) ⟨.int z.length,H,I.tok _,⟨_,rfl⟩,q⟩
theorem call_list_of:zX X (.type "list") (λxs H Q=>∃ p ys,xs=[.ref p]/\(SqL X.K H p ys\/SqT X.K H p ys)/\∀ l,H l=none->Q (.ref l) (upd H l (.lst ys))):=by
 intro pins s σ H xs us Q I r h;obtain⟨p,ys,rfl,hq,q⟩:=h;obtain⟨u,rfl,v⟩:=qcB r;cases v;have d:∀(its:List Value),Vals ys its->ys.length<=sizeLine->∀(h':Heap) (a:Nat),(∀ b t,s.heap.get? b=some t->h'.get? b=some t) ->
   h'.get? s.heap.objs.size=some { cls:=.type "list",dict:=none,data:=.seq its.toArray a,slots:=#[] }->EP X pins σ Q (.ref s.heap.objs.size) { s with heap:=h' }:=λits c g h' a i e =>
  ⟨.ref s.heap.objs.size,_,I.laid (t':=s.toks) i (yg _) (show ObjOk X.prog X.w _ h' _ (.lst ys) from⟨g,its,a,c,e⟩),rfl,q _ (I.hok.fresh (yg _))⟩
 rcases hq with hq | hq
 .obtain⟨its,c,pl,g⟩:=I.list hq;have f:=c.length;obtain⟨o,m,hc,n,j⟩:=pl.isList;show call_list_seq p (.inl rfl) m hc j (λh' a i e=>d its c g h' a i e) (by simp only[yr]<;>lk)
 .obtain⟨its,c,pl,g⟩:=I.tuple hq;have f:=c.length;obtain⟨o,m,hc,n,j⟩:=pl;show call_list_seq p (.inr rfl) m hc j (λh' a i e=>d its c g h' a i e) (by simp only[yr]<;>lk)
theorem call_tuple_of:zX X (.type "tuple") (λxs H Q=>∃ p ys,xs=[.ref p]/\((SqL X.K H p ys/\∀ l,H l=none->Q (.ref l) (upd H l (.tup ys)))\/(SqT X.K H p ys/\Q (.ref p) H))):=by
 intro pins s σ H xs us Q I r h;obtain⟨p,ys,rfl,h⟩:=h;obtain⟨u,rfl,m⟩:=qcB r;cases m;rcases h with⟨a,q⟩ | ⟨a,q⟩
 .obtain⟨its,c,pl,g⟩:=I.list a;have f:=c.length;show call_tuple_list pl.isList (λh' j=>?_) (by simp only[yr]<;>lk);have d:Inv X pins σ H { s with heap:=h' }:=I.kept (t':=s.toks) j
  have i:Inv X pins σ (upd H h'.objs.size (.tup ys)) { s with heap:=h'.push { cls:=.type "tuple",data:=.seq its.toArray } }:=
   d.laid (t':=s.toks) (λb o e=>yq _ e) (yg _) (show ObjOk X.prog X.w _ _ _ (.tup ys) from⟨g,its,c,IsTup.new _ _⟩)
  show⟨.ref h'.objs.size,_,i,rfl,q _ (d.hok.fresh (yg _))⟩
 .obtain⟨its,c,pl,g⟩:=I.tuple a;show call_tuple_same pl ⟨.ref p,H,I,rfl,q⟩
def tyV(K:yf)(T:String)(x:V)(H:Hp):Prop:=match x with
 | .str _=>T="str"
 | .int _=>T="int"
 | .ref p=>(T="list"/\∃ xs,SqL K H p xs)\/(T="tuple"/\∃ o,K.lookup p=some o/\o.cls=.type "tuple"/\o.dict=none) \/
   (T="dict"/\((∃ kvs,H p=some (.dK kvs))\/∃ kvs,H p=some (.dT kvs)))\/(T="set"/\∃ S n,H p=some (.set S n))
 | _=>False
theorem qfu{T:String}(I:Inv X pins σ H s)(r:RelV x v)(ty:tyV X.K T x H) :
  s.TypeIs v T/\∀ a,v=.ref a->∃ h,s.heap.get? a=some h/\h.dict=none:=by
 cases x with
 | str z =>
  obtain⟨t,rfl⟩:=r;cases (show T="str" from ty);show⟨xY s z t,λ_ e=>nomatch e⟩
 | int i =>
  obtain⟨t,rfl⟩:=r;cases (show T="int" from ty);show⟨typeIs_int s i t,λ_ e=>nomatch e⟩
 | ref p =>
  cases r;rcases ty with⟨rfl,xs,j⟩ | ⟨rfl,o,b,hc,g⟩ | ⟨rfl,b⟩ | ⟨rfl,S,n,b⟩
  .obtain⟨its,_,pl,_⟩:=I.list j;show⟨pl.isList.typeIs,λa e=>?_⟩;cases e;obtain⟨o,n,e,c,g,_⟩:=pl;show⟨o,e,g⟩
  .show⟨⟨o,I.kIn p o b,hc⟩,λa e=>?_⟩;cases e;show⟨o,I.kIn _ o b,g⟩
  .have z:∃ o,s.heap.get? p=some o/\o.ExactDict:=by
    rcases b with⟨kvs,b⟩ | ⟨kvs,b⟩
    .obtain⟨_,_,_,_,o,_,_,e,d,_⟩:=I.hok p _ b;show⟨o,e,d⟩
    .obtain⟨_,_,_,_,o,_,_,e,d,_⟩:=I.hok p _ b;show⟨o,e,d⟩
   obtain⟨o,e,d⟩:=z;show⟨⟨o,e,d.1⟩,λa f=>?_⟩;cases f;show⟨o,e,d.2.1⟩
  .obtain⟨o,_,_,_,e,d,_⟩:=I.hok p _ b;show⟨⟨o,e,d.1⟩,λa f=>?_⟩;cases f;show⟨o,e,d.2.1⟩
 | _=>show False.elim ty
def qhc(K:yf)(T:String)(r:V->List V->Hp->VK->Prop)(b:TE):TE:=fun σ H Q=>b σ H λx a=>tyV K T x a/\r x [] a Q
def tBM(K:yf)(T:String)(r:V->List V->Hp->VK->Prop)(c:TE)(t:TA):TE:=fun σ H Q=>c σ H λx a=>tyV K T x a/\t σ a λxs b=>r x xs b Q
variable{o e:Expr}{es:List Expr}{to:TE}{t:TA}{name:Str}{apos cpos:Pos}{T id:String}{r:V->List V->Hp->VK->Prop}
theorem pe_bm0(m:PlainAttrs T)(c:Slot T name id)(d:typeOf (.builtin id)=pure (.type "method_descriptor"))(j:MtR X id r)(l:PE X o to)
  (a:attributeBase o name X.env (eval o X.env)=eval o X.env:=by rfl) (b:(apos.endLine==cpos.line)=true:=by rfl):PE X (.Call (.Attribute o name apos) [] [] cpos) (qhc X.K T r to):=by
 intro pins s σ H Q I h;show wpAny_Call_method0_late a b (thn (l pins s σ H _ I h) λv p ⟨x,g,e,f,ty,n⟩=>?_);obtain⟨h1,i⟩:=qfu e f ty;show⟨T,id,m,c,d,h1,i,Xh rfl (PySem.evalArgs_none (j pins p σ g x [] v [] Q e f .nil n))⟩
theorem pe_bm(A:PlainAttrs T)(f:Slot T name id)(g:typeOf (.builtin id)=pure (.type "method_descriptor"))(w:MtR X id r)(y:PE X o to)(u:PA X (e::es) t)
  (b:attributeBase o name X.env (eval o X.env)=eval o X.env:=by rfl)
  (d:((backTo cpos (starEach (e::es) X.env)).all (λx=>!x.1)&&(backToKw cpos (keywordEach [] X.env)).all (λx=>x.1.isSome)
   && decide ((e::es).length+([]:List Keyword).length+(if ([]:List Keyword).isEmpty then 0 else 1)<30))=true:=by rfl)
  (c:(apos.endLine==cpos.line)=true:=by rfl) (z:starEach (e::es) X.env=(false,eval e X.env)::starEach es X.env:=by rfl) (a:(backTo cpos (starEach es X.env)).any (·.1)=false:=by rfl) :
  PE X (.Call (.Attribute o name apos) (e::es) [] cpos) (tBM X.K T r to t):=by
 intro pins s σ H Q I h;show wpAny_Call_method_late b d c rfl (thn (y pins s σ H _ I h) λv E ⟨x,m,i,l,ty,B⟩=>?_);obtain⟨h1,q⟩:=qfu i l ty;show⟨T,id,A,f,g,h1,q,?_⟩;have j:=u cpos pins E σ m _ i B;rw[z] at j ⊢;show Xh (by show(false||(backTo cpos (starEach es X.env)).any (·.1))=false;rw[a]<;>rfl) (Calls.evalArgs_plain ?_);show thn j λus F ⟨vs,n,p,D,C⟩=>w pins F σ n x vs v us Q p l D C
end
def MtM(X:Cx)(id:String)(r:V->List V->Hp->VK->Prop):Prop:=
 ∀(pins:List (Addr×Obj)) (s:Shared) (σ:St) (H:Hp) (x:V) (xs:List V) (v:Value) (us:List Value) (Q:VK),Inv X pins σ H s->RelV x v->Vals xs us->r x xs H Q ->
  wpAny (model X.prog X.w) X.A (call (.builtin id) (v::us)) (EP X pins σ Q) X.xe s
theorem Vals.one:∀{x:V} {us:List Value},Vals [x] us->∃ u,us=[u]/\RelV x u
 | _,_,.cons r .nil=>⟨_,rfl,r⟩
theorem Vals.zero:∀{us:List Value},Vals [] us->us=[]
 | _,.nil=>rfl
theorem Vals.dropLast(h:Vals xs us):Vals xs.dropLast us.dropLast:=by
 induction h with
 | nil=>show .nil
 | cons r t ih =>
  cases t with
  | nil=>show .nil
  | cons q t'=>show .cons r ih
theorem Vals.eraseIdx:∀{xs:List V} {us:List Value} (i:Nat),Vals xs us->Vals (xs.eraseIdx i) (us.eraseIdx i)
 | _,_,_,.nil=>.nil
 | _,_,0,.cons _ t=>t
 | _,_,i+1,.cons r t=>.cons r (Vals.eraseIdx i t)
theorem Vals.rep(h:Vals xs us):∀ k:Nat,Vals (List.replicate k xs).flatten (List.replicate k us).flatten
 | 0=>.nil
 | k+1=>by
  rw[YS,YS,xJ,xJ];show Vals.append h (Vals.rep h k)
theorem erase_last(l:List α):l.eraseIdx (l.length-1)=l.dropLast:=by
 induction l with
 | nil=>rfl
 | cons a r ih =>
  cases r with
  | nil=>rfl
  | cons b r =>
   have e:(a::b::r).length-1=((b::r).length-1)+1:=by
    have h1:(a::b::r).length=r.length+2:=rfl;have c:(b::r).length=r.length+1:=rfl;lk
   rw[e,List.eraseIdx_cons_succ,ih]
   all_goals rfl
theorem qcK:∀(l:List α) (i:Nat),(l.eraseIdx i).length<=l.length
 | [],_=>yg _
 | _::_,0=>xN _
 | _::r,i+1=>Nat.succ_le_succ (qcK r i)
theorem qcL(its:List Value):∀(k:Nat) (acc:List Value),
  List.foldl (λb c=>b++c) acc.toArray (List.replicate k its.toArray)=(acc++(List.replicate k its).flatten).toArray
 | 0,acc=>by simp
 | k+1,acc=>by
  have e:acc.toArray++its.toArray=(acc++its).toArray:=by simp
  have a:(acc++its)++(List.replicate k its).flatten=acc++(List.replicate (k+1) its).flatten:=by
   rw[YS,xJ,xK]
  rw[<- a,<- qcL its k (acc++its),<- e,YS,List.foldl_cons]
section
variable{X:Cx}{pins:List (Addr×Obj)}{σ:St}{H:Hp}{s:Shared}{l b:Addr}{xs ys zs:List V}
theorem Inv.lset{f:Array Value->Array Value}(I:Inv X pins σ H s)(a:H l=some (.lst xs))
  (e:s.heap.get? l=some { cls:=.type "list",data:=.seq its.toArray n }) (b:f its.toArray=its'.toArray) (hv:Vals ys its') (d:ys.length<=sizeLine) :
  Inv X pins σ (upd H l (.lst ys)) { s with heap:=s.heap.update l (Obj.mapSeq f),toks:=t' }:=by
 have q:=PySem.IsL.update e f;rw[b] at q;show I.write (x:=l) (e:=l) (by rw[a];show trivial) (.inl rfl) (λg u hb c=>(Yg s.heap (Obj.mapSeq f) (YW hb)).trans c) ⟨_,q⟩ ?_;show⟨d,its',_,hv,q⟩
theorem Inv.lnew(I:Inv X pins σ H s)(hv:Vals ys its)(a:ys.length<=sizeLine) :
  Inv X pins σ (upd H s.heap.objs.size (.lst ys)) { s with heap:=s.heap.push { cls:=.type "list",data:=.seq its.toArray },toks:=t' }:=
 I.laid (λ_ _ q=>yq _ q) (yg _) ⟨a,its,0,hv,yI _ rfl⟩
theorem Inv.fresh(I:Inv X pins σ H s):H s.heap.objs.size=none:=I.hok.fresh (yg _)
theorem Inv.lstM(I:Inv X pins σ H s)(a:H l=some (.lst xs)):xs.length<=sizeLine/\∃(its:List Value) (n:Nat),Vals xs its/\xs.length=its.length/\s.heap.get? l=some { cls:=.type "list",data:=.seq its.toArray n }:=by
 obtain⟨z,its,n,r,e⟩:=I.hok l _ a;show⟨z,its,n,r,r.length,e⟩
theorem qdG(h:n<=sizeLine):Builtin.List.listTooLong n=false:=by
 unfold Builtin.List.listTooLong;show yk (by lk)
end
section
variable{X:Cx}
inductive rAppend(x:V)(vs:List V)(H:Hp)(Q:VK):Prop|mk (l xs y:_) (_:x=.ref l) (_:vs=[y]) (_:H l=some (.lst xs)) (_:xs.length<sizeLine) (_:Q .non (upd H l (.lst (xs++[y]))))
theorem mt_append:MtM X "list.append" rAppend:=by
 intro pins s σ H x vs v us Q I d c h;obtain⟨l,xs,y,rfl,rfl,a,f,q⟩:=h;cases d;obtain⟨u,rfl,b⟩:=c.one;obtain⟨z,its,n,r,hl,e⟩:=I.lstM a;show xi F.slot_list_append ⟨_,e,rfl⟩ F.entry_list_append (F.args_list_append_2 _ _) (PySem.list_append l its.toArray n u (by rw[yr];lk)) ⟨e,?_⟩;show⟨.non,_,I.lset (its':=its++[u]) a e (by simp) (r.append (.cons b .nil)) ?_,rfl,q⟩;rw[yx,List.length_singleton];lk
inductive rExtend(x:V)(vs:List V)(H:Hp)(Q:VK):Prop|mk (l b xs zs:_) (_:x=.ref l) (_:vs=[.ref b]) (_:H l=some (.lst xs)) (_:H b=some (.lst zs)) (_:xs.length+zs.length<=sizeLine) (_:Q .non (upd H l (.lst (xs++zs))))
theorem mt_extend:MtM X "list.extend" rExtend:=by
 intro pins s σ H x vs v us Q I t p h;obtain⟨l,b,xs,A,rfl,rfl,d,g,w,q⟩:=h;cases t;obtain⟨u,rfl,o⟩:=p.one;cases o;obtain⟨z,its,n,r,hl,e⟩:=I.lstM d;obtain⟨y,a,j,m,i,f⟩:=I.lstM g;have hsz:its.toArray.size+a.toArray.size<=sizeLine:=by rw[yr,yr];lk
 have c:¬ (!its.toArray.isEmpty&&Builtin.List.listTooLong (its.toArray.size+a.toArray.size))=true:=by
  rw[qdG hsz,Bool.and_false];show yV
 show xi F.slot_list_extend ⟨_,e,rfl⟩ F.entry_list_extend (F.args_list_extend_2 _ _)
  (AutoSeq1.list_extend_list_list_0 l its.toArray n b a.toArray j c (by rw[yr];lk) (by lk)) ⟨e,f,?_⟩
 show⟨.non,_,I.lset (its':=its++a) d e (by simp) (r.append m) ?_,rfl,q⟩;rw[yx];lk
inductive rPop(x:V)(vs:List V)(H:Hp)(Q:VK):Prop|mk (l xs y:_) (_:x=.ref l) (_:vs=[]) (_:H l=some (.lst xs)) (_:xs[xs.length-1]?=some y) (_:Q y (upd H l (.lst xs.dropLast)))
theorem mt_pop:MtM X "list.pop" rPop:=by
 intro pins s σ H x vs v us Q I j i h;obtain⟨l,xs,y,rfl,rfl,c,f,q⟩:=h;cases j;have a:=i.zero;subst a;obtain⟨z,its,n,r,hl,e⟩:=I.lstM c;obtain⟨u,d,g⟩:=r.get f
 have b:its.toArray[its.toArray.size-1]?=some u:=by
  show its.toArray[its.length-1]?=some u;rw[<- xH,<- hl];show d
 show xi F.slot_list_pop ⟨_,e,rfl⟩ F.entry_list_pop (F.args_list_pop_1 _) (MeetsSeq.list_pop_last l its.toArray n u b (by rw[yr];lk)) ⟨e,?_⟩;show⟨y,_,I.lset (its':=its.dropLast) c e ?_ r.dropLast ?_,g,q⟩
 .show its.toArray.eraseIdxIfInBounds (its.toArray.size-1)=its.dropLast.toArray;rw[yr,List.eraseIdxIfInBounds_toArray,erase_last]
 .rw [List.length_dropLast];lk
inductive rPopAt(x:V)(vs:List V)(H:Hp)(Q:VK):Prop|mk (l xs i k y:_) (_:x=.ref l) (_:vs=[.int i]) (_:H l=some (.lst xs)) (_:-(2 ^ 63)<=i) (_:i<2 ^ 63) (_:seqIndex? i xs.length=some k) (_:xs[k]?=some y) (_:Q y (upd H l (.lst (xs.eraseIdx k))))
theorem mt_popAt:MtM X "list.pop" rPopAt:=by
 intro pins s σ H x vs v us Q I m j h;obtain⟨l,xs,i,k,y,rfl,rfl,b,h1,c,d,f,q⟩:=h;cases m;obtain⟨u,rfl,g⟩:=j.one;obtain⟨t,rfl⟩:=g;obtain⟨z,its,n,r,hl,e⟩:=I.lstM b;obtain⟨w,hw,a⟩:=r.get f;show xi F.slot_list_pop ⟨_,e,rfl⟩ F.entry_list_pop (F.args_list_pop_2 _ _)
  (MeetsSeq.list_pop_at l its.toArray n i t k w (fitsIndex_both h1 c) (by rw[yr,<- hl];show d) (by rw[<- xH];show hw) (by rw[yr];lk)) ⟨e,?_⟩
 show⟨y,_,I.lset (its':=its.eraseIdx k) b e ?_ (r.eraseIdx k) ?_,a,q⟩
 .show its.toArray.eraseIdxIfInBounds k=(its.eraseIdx k).toArray;rw[List.eraseIdxIfInBounds_toArray]
 .have:=qcK xs k;lk
inductive rReverse(x:V)(vs:List V)(H:Hp)(Q:VK):Prop|mk (l xs:_) (_:x=.ref l) (_:vs=[]) (_:H l=some (.lst xs)) (_:Q .non (upd H l (.lst xs.reverse)))
inductive rClear(x:V)(vs:List V)(H:Hp)(Q:VK):Prop|mk (l xs:_) (_:x=.ref l) (_:vs=[]) (_:H l=some (.lst xs)) (_:Q .non (upd H l (.lst [])))
inductive rCat(x:V)(y:V)(H:Hp)(Q:VK):Prop|mk (l b xs zs:_) (_:x=.ref l) (_:y=.ref b) (_:H l=some (.lst xs)) (_:H b=some (.lst zs)) (_:xs.length+zs.length<=sizeLine) (_:∀ p,H p=none->Q (.ref p) (upd H p (.lst (xs++zs))))
theorem op_cat:OpR X (binaryOp .Add) rCat:=by
 intro pins s σ H x y v u Q I m o h;obtain⟨l,b,xs,A,rfl,rfl,g,f,p,q⟩:=h;cases m;cases o;obtain⟨z,its,n,r,hl,e⟩:=I.lstM g;obtain⟨w,a,t,j,i,c⟩:=I.lstM f;show PySem.P.add_list e c ?_ (by rw[yr,yr];lk);have d:its.toArray++a.toArray=(its++a).toArray:=by simp
 rw[d];show⟨.ref _,_,I.lnew (t':=s.toks) (r.append j) (by rw[yx];lk),rfl,q _ I.fresh⟩
inductive rRep(x:V)(y:V)(H:Hp)(Q:VK):Prop|mk (l k xs:_) (_:x=.ref l) (_:y=.int k) (_:H l=some (.lst xs)) (_:-(2 ^ 63)<=k) (_:k<2 ^ 63) (_:xs.length*k.toNat<=sizeLine) (_:∀ p,H p=none->Q (.ref p) (upd H p (.lst (List.replicate k.toNat xs).flatten)))
theorem len_rep(xs:List α)(k:Nat):(List.replicate k xs).flatten.length=k*xs.length:=by
 induction k with
 | zero=>simp
 | succ k ih=>rw[YS,xJ,yx,ih,Nat.succ_mul,Nat.add_comm]
theorem qfv:OpR X (binaryOp .Mult) rRep:=by
 intro pins s σ H x y v u Q I B C h;obtain⟨l,k,xs,rfl,rfl,A,h1,w,o,q⟩:=h;cases B;obtain⟨t,rfl⟩:=C;obtain⟨z,its,n,r,hl,e⟩:=I.lstM A;have f:its.toArray.size*k.toNat<=sizeLine:=by rw[yr,<- hl];show o
 have c:¬ its.toArray.size*k.toNat>(2 ^ 63-1) / 8:=by
  have:(sizeLine:Nat)<=(2 ^ 63-1) / 8:=by decide
  lk
 have d:¬ (!Builtin.List.listFitsIndex k)=true:=by
  rw[fitsIndex_both h1 w];show yV
 have b:¬ Builtin.List.listTooLong (its.toArray.size*k.toNat)=true:=by
  rw[qdG f];show yV
 have g:List.foldl (λi j=>i++j) #[] (List.replicate (if its.toArray.isEmpty=true then 0 else k.toNat) its.toArray)=(List.replicate k.toNat its).flatten.toArray:=by
  have p:∀ m:Nat,List.foldl (λi j=>i++j) #[] (List.replicate m its.toArray)=(List.replicate m its).flatten.toArray:=λm=>by
   have:=qcL its m [];rw[List.nil_append] at this;show this
  rw[p]
  cases its with
  | nil=>simp
  | cons a r'=>rw[yw (by simp)]
 show wpAny_binaryOp_repeat_ref (T:="list") (U:="int") (by decide) ⟨_,e,rfl⟩ (λs'=>typeIs_int s' k t) noFill_list_mul F.fills_int_mul F.slot_int_rmul repeat_list F.slot_int_index.lookup
  (xi F.slot_int_rmul (typeIs_int s k t) F.entry_int_rmul (F.args_int_rmul_2 _ _) (int___rmul___int_list k t l its.toArray n)
   ⟨e,rfl,⟨_,e,rfl⟩,xi F.slot_list_mul ⟨_,e,rfl⟩ F.entry_list_mul (F.args_list_mul_2 _ _) (AutoListH.list___mul___list_int_3 l its.toArray n k t d c b) ⟨e,?_⟩⟩)
 rw[g];show⟨.ref _,_,I.lnew (t':=s.toks) (r.rep k.toNat) (by rw[len_rep,Nat.mul_comm];show o),rfl,q _ I.fresh⟩
end
section
variable{prog:Program}{w:World}{A:Around}{E:Value->Shared->Prop}{s:Shared}
set_option maxRecDepth 100000 in
end
section
variable{X:Cx}
end
section
variable{κ:Type}[DecidableEq κ]
def qaI(kvs:List (κ×V))(k:κ):Option V:=(kvs.find? λa=>decide (a.1=k)).map (·.2)
def qdg(kvs:List (κ×V))(k:κ)(v:V):List (κ×V):=
 if (kvs.any λa=>decide (a.1=k))=true then kvs.map (λa=>if a.1=k then(a.1,v) else a) else kvs++[(k,v)]
def dropK(kvs:List (κ×V))(k:κ):List (κ×V):=kvs.filter λa=>decide (a.1≠k)
theorem jm{p:κ×V}{r:List (κ×V)}{k:κ}(e:p.1=k):qaI (p::r) k=some p.2:=by simp[qaI,xp,e]
theorem jc{p:κ×V}{r:List (κ×V)}{k:κ}(e:¬ p.1=k):qaI (p::r) k=qaI r k:=by simp[qaI,xp,e]
theorem qaJ(k:κ):∀ kvs:List (κ×V),(kvs.any λa=>decide (a.1=k))=(qaI kvs k).isSome
 | []=>rfl
 | p::r=>by
  rw[XB];by_cases e:p.1=k
  .simp only[jm e,yL e,Bool.true_or,Option.isSome_some]
  .rw [jc e,yk e,Bool.false_or];show qaJ k r
theorem qdH(k j:κ)(y:V):∀ kvs:List (κ×V),qaI (kvs.map λa=>if a.1=k then(a.1,y) else a) j=(qaI kvs j).map λx=>if j=k then y else x
 | []=>rfl
 | p::r=>by
  have b:=qdH k j y r;rw[yP];by_cases h:p.1=k
  .rw [yB h];by_cases e:p.1=j
   .rw [jm (p:=(p.1,y)) e,jm e,XM,yB (e.symm.trans h)]
   .rw [jc (p:=(p.1,y)) e,jc e,b]
  .rw [yw h];by_cases e:p.1=j
   .rw [jm (p:=p) e,jm e,XM,yw (λz=>h (e.trans z))]
   .rw [jc (p:=p) e,jc e,b]
theorem qcM(k j:κ)(y:V):∀ kvs:List (κ×V),qaI kvs k=none->qaI (kvs++[(k,y)]) j=if j=k then some y else qaI kvs j
 | [],_=>by
  by_cases e:k=j
  .rw [yB e.symm];show jm (p:=(k,y)) e
  .rw [yw (λz=>e z.symm)];show jc (p:=(k,y)) e
 | p::r,hn=>by
  rw[Xx];have a:¬ p.1=k:=λz=>by rw[jm z] at hn;cases hn
  rw[jc a] at hn;have b:=qcM k j y r hn;by_cases e:p.1=j
  .rw [jm e,jm e,yw (λz=>a (e.trans z))]
  .rw [jc e,jc e,b]
theorem valV_put(kvs:List (κ×V))(k j:κ)(y:V):qaI (qdg kvs k y) j=if j=k then some y else qaI kvs j:=by
 unfold qdg;by_cases a:(kvs.any λc=>decide (c.1=k))=true
 .rw [yB a,qdH];rw[qaJ] at a;by_cases e:j=k
  .obtain⟨x,b⟩:=Option.isSome_iff_exists.mp a;rw[yB e,e,b,XM,yB rfl]
  .rw [yw e]
   cases qaI kvs j with
   | none=>rfl
   | some x=>rw[XM,yw e]
 .rw [yw a];show qcM k j y kvs ?_;rw[qaJ] at a
  cases q:qaI kvs k with
  | none=>rfl
  | some x=>rw[q] at a;show(a rfl).elim
theorem qax(kvs:List (κ×V))(k:κ)(v:V):(qdg kvs k v).length<=kvs.length+1:=by
 unfold qdg;split
 .rw [ya];lk
 .rw [yx,Yb,xF];lk
theorem putK_new{kvs:List (κ×V)}{k:κ}(v:V)(h:qaI kvs k=none):qdg kvs k v=kvs++[(k,v)]:=by
 unfold qdg;rw[qaJ,h];show yw (by decide)
theorem RelO.isSome_eq{u:Option Value}(r:RelO o u):o.isSome=u.isSome:=by
 cases o with
 | none=>cases u with
  | none=>rfl
  | some _=>show(show False from r).elim
 | some _=>cases u with
  | none=>show(show False from r).elim
  | some _=>rfl
theorem KV.val{kvs:List (κ×V)}{vs:List (κ×Value)}(r:KV kvs vs)(k:κ):RelO (qaI kvs k) (valueAt vs k):=by
 unfold KV at r
 induction r with
 | nil=>show Yp
 | @cons p q ps qs h t ih =>
  obtain⟨h1,c⟩:=h;by_cases e:p.1=k
  .have a:q.1=k:=h1.symm.trans e;have b:valueAt (q::qs) k=some q.2:=by simp[valueAt,xp,a]
   rw[jm e,b];show c
  .have a:¬ q.1=k:=λz=>e (h1.trans z);have b:valueAt (q::qs) k=valueAt qs k:=by simp[valueAt,xp,a]
   rw[jc e,b];show ih
theorem KV.any{kvs:List (κ×V)}{vs:List (κ×Value)}(r:KV kvs vs)(k:κ):(kvs.any λa=>decide (a.1=k))=vs.any λa=>decide (a.1=k):=by
 unfold KV at r
 induction r with
 | nil=>rfl
 | cons h t ih=>rw[XB,XB,ih,h.1]
theorem KV.repl{kvs:List (κ×V)}{vs:List (κ×Value)}(r:KV kvs vs)(k:κ)(c:RelV y u) :
  KV (kvs.map λa=>if a.1=k then(a.1,y) else a) (vs.map λa=>if a.1=k then(a.1,u) else a):=by
 unfold KV at r ⊢
 induction r with
 | nil=>show .nil
 | @cons p q ps qs h t ih =>
  rw[yP,yP];show .cons ?_ ih;obtain⟨h1,b⟩:=h;by_cases e:p.1=k
  .rw [yB e,yB (h1.symm.trans e)];show⟨h1,c⟩
  .rw [yw e,yw (λz=>e (h1.trans z))];show⟨h1,b⟩
theorem KV.put{kvs:List (κ×V)}{vs:List (κ×Value)}(r:KV kvs vs)(k:κ)(a:RelV y u):KV (qdg kvs k y) (stored vs k u):=by
 unfold qdg stored;rw[r.any k];by_cases e:(vs.any λb=>decide (b.1=k))=true
 .rw [yB e,yB e];show r.repl k a
 .rw [yw e,yw e];show Paired.snoc r ⟨rfl,a⟩
theorem KV.length{kvs:List (κ×V)}{vs:List (κ×Value)}(r:KV kvs vs):kvs.length=vs.length:=Paired.length r
end
theorem qev{k:Key}(r:RelV (kV k) u):(jy P w).is k u=true:=by
 cases k with
 | inl i=>obtain⟨t,e⟩:=(show ∃ t,u=Value.int i t from r);subst e;show mixKind_int P w i t
 | inr x=>obtain⟨t,e⟩:=(show ∃ t,u=Value.str x t from r);subst e;show mixKind_str P w x t
theorem qcN:∀{ks:List Key} {us:List Value},Vals (ks.map kV) us->ItemsAre (jy P w) ks us
 | [],_,r=>by rw[kJ] at r;cases r;show .nil
 | k::ks,_,r=>by
  rw[yP] at r
  cases r with
  | cons h t=>show .cons (qev h) (qcN t)
abbrev KT(H:Hp):List (List Key×V)->List (List Key×Addr×Value)->Prop:=Paired λp q=>p.1=q.1/\H q.2.1=some (.tup (p.1.map kV))/\RelV p.2 q.2.2
theorem KT.val{xs:List (List Key×Addr×Value)}(r:KT H kvs xs)(k:List Key):RelO (qaI kvs k) ((atKey xs k).map (·.2)):=by
 induction r with
 | nil=>show Yp
 | @cons p q ps qs h t ih =>
  obtain⟨h1,_,c⟩:=h;by_cases e:p.1=k
  .have a:q.1=k:=h1.symm.trans e;have b:atKey (q::qs) k=some q.2:=by simp[atKey,xp,a]
   rw[jm e,b];show c
  .have a:¬ q.1=k:=λz=>e (h1.trans z);have b:atKey (q::qs) k=atKey qs k:=by simp[atKey,xp,a]
   rw[jc e,b];show ih
theorem KT.repl{xs:List (List Key×Addr×Value)}(r:KT H kvs xs)(k:List Key)(d:RelV y u) :
  KT H (kvs.map λa=>if a.1=k then(a.1,y) else a) (xs.map (putAt k u)):=by
 induction r with
 | nil=>show .nil
 | @cons p q ps qs h t ih =>
  rw[yP,yP];show .cons ?_ ih;obtain⟨h1,b,c⟩:=h;unfold putAt;by_cases e:p.1=k
  .rw [yB e,yB (h1.symm.trans e)];show⟨h1,b,d⟩
  .rw [yw e,yw (λz=>e (h1.trans z))];show⟨h1,b,c⟩
theorem KT.put{xs:List (List Key×Addr×Value)}(r:KT H kvs xs)(k:List Key){b:Addr}(hb:H b=some (.tup (k.map kV)))(a:RelV y u) :
  KT H (qdg kvs k y) (storedH xs k b u):=by
 have e:(kvs.any λc=>decide (c.1=k))=(atKey xs k).isSome:=by
  rw[qaJ,(r.val k).isSome_eq,kj]
 unfold qdg storedH;rw[e];by_cases q:(atKey xs k).isSome=true
 .rw [yB q,yB q];show r.repl k a
 .rw [yw q,yw q];show Paired.snoc r ⟨rfl,hb,a⟩
theorem KT.keeps{xs:List (List Key×Addr×Value)}(r:KT H kvs xs)(a:∀ b ys,H b=some (.tup ys)->H' b=some (.tup ys)):KT H' kvs xs:=
 Paired.mapP r λ_ _ z=>⟨z.1,a _ _ z.2.1,z.2.2⟩
section
variable{P:Program}{w:World}{H:Hp}{h:Heap}{a:Addr}
theorem qgx{u:HO}(ok:HOk P w H h)(e:Rd H a u):ObjOk P w H h a u:=e.ok ok
theorem qd9{kvs:List (Key×V)}(ok:HOk P w H h)(e:Rd H a (.dK kvs)):kvs.length<=sizeLine/\(a==sysModules)=false/\∃ vs,KV kvs vs/\h.DictOf (jy P w) a vs:=
 show ObjOk P w H h a (.dK kvs) from qgx ok e
theorem qgy{kvs:List (Key×V)}(ok:HOk P w H h)(e:H a=some (.dK kvs)):kvs.length<=sizeLine/\(a==sysModules)=false/\∃ vs,KV kvs vs/\h.DictOf (jy P w) a vs:=qd9 ok (.inl e)
theorem qcO{ks:List Key}(ok:HOk P w H h)(e:H a=some (.tup (ks.map kV))):(tupleKind (jy P w)).is h ks a:=by
 obtain⟨_,its,r,o,h1,b,n,c⟩:=(show ObjOk P w H h a (.tup (ks.map kV)) from ok a _ e);show⟨o,its.toArray,n,h1,b,c,by simpa using qcN r⟩
theorem qew(ok:HOk P w H h)(e:Rd H a (.dT kvs)):kvs.length<=sizeLine/\(a==sysModules)=false /\
  ∃ xs,KT H kvs xs/\h.DictOfH (tupleKind (jy P w)) a xs:=by
 obtain⟨z,y,xs,r,o,b,ep,h1,c,d,f,g⟩:=(show ObjOk P w H h a (.dT kvs) from qgx ok e);show⟨z,y,xs,r,o,b,ep,h1,c,d,f,λx hx=>?_,g⟩
 have all:∀{l:List (List Key×V)} {m:List (List Key×Addr×Value)},KT H l m->∀ x∈m,(tupleKind (jy P w)).is h x.1 x.2.1:=by
  intro l m q
  induction q with
  | nil=>intro x hx;show nomatch hx
  | @cons p q ps qs hq t ih =>
   intro x hx;rcases yt.mp hx with e | hx
   .subst e;show qcO ok (by rw[<- hq.1];show hq.2.1)
   .show ih x hx
 show all r x hx
theorem dt_of(ok:HOk P w H h)(e:H a=some (.dT kvs)):kvs.length<=sizeLine/\(a==sysModules)=false /\
  ∃ xs,KT H kvs xs/\h.DictOfH (tupleKind (jy P w)) a xs:=qew ok (.inl e)
end
def DGet(H:Hp)(a:Addr)(y:V)(r:Option V):Prop:=
 (∃ kvs k,Rd H a (.dK kvs)/\y=kV k/\r=qaI kvs k)\/∃ kvs k b,Rd H a (.dT kvs)/\y=.ref b/\H b=some (.tup (k.map kV))/\r=qaI kvs k
def DPut(H:Hp)(a:Addr)(y v:V)(H':Hp):Prop:=
 (∃ kvs k,H a=some (.dK kvs)/\y=kV k/\kvs.length<sizeLine/\H'=upd H a (.dK (qdg kvs k v))) \/
 ∃ kvs k b,H a=some (.dT kvs)/\y=.ref b/\H b=some (.tup (k.map kV))/\kvs.length<sizeLine/\H'=upd H a (.dT (qdg kvs k v))
theorem DGet.k{kvs:List (Key×V)}{k:Key}(e:H a=some (.dK kvs)):DGet H a (kV k) (qaI kvs k):=.inl ⟨kvs,k,.inl e,rfl,rfl⟩
theorem DPut.k{kvs:List (Key×V)}{k:Key}{v:V}(e:H a=some (.dK kvs))(hl:kvs.length<sizeLine):DPut H a (kV k) v (upd H a (.dK (qdg kvs k v))):=.inl ⟨kvs,k,e,rfl,hl,rfl⟩
section
variable{X:Cx}{pins:List (Addr×Obj)}{σ:St}{H:Hp}{s:Shared}{a:Addr}{y v:V}{u r:Value}{o:Option V}{A:Around}{E:Value->Shared->Prop}
theorem Inv.big(I:Inv X pins σ H s):sysModules<s.heap.objs.size:=by
 have h:mainGlobals<s.heap.objs.size:=(I.mod.glob.keeps I.bk).lt;show kK (by decide) h
theorem d_getItem{Q:Value->Shared->Prop}(x:A.units+1<cLine)(I:Inv X pins σ H s)(g:DGet H a y (some v))(n:RelV y u)(h:∀ f s',Inv X pins σ H s'->RelV v f->Q f s') :
  wpAny (model X.prog X.w) A (getItem (.ref a) u) Q E s:=by
 rcases g with⟨kvs,k,e,j,l⟩ | ⟨kvs,k,b,e,j,q,l⟩
 .subst j;obtain⟨z,r,vs,c,i⟩:=qd9 I.hok e;obtain⟨f,hw,d⟩:=RelO.some_of (v:=v) (o:=valueAt vs k) (by rw[l];show c.val k);show wpAny_getItem_of (qev n) i.mapOf hw (h f _ (I.tok _) d)
 .subst j;cases (show u=Value.ref b from n);obtain⟨z,r,xs,c,i⟩:=qew I.hok e;obtain⟨f,hw,d⟩:=RelO.some_of (v:=v) (o:=(atKey xs k).map (·.2)) (by rw[l];show c.val k);obtain⟨p,t,m⟩:=Xi.mp hw;show wpAny_getItem_heap (xZ x) (qcO I.hok q) i t ?_;rw[m];show h f _ (I.tok _) d
theorem qg2{Q:Value->Shared->Prop}(n:A.units+1<cLine)(I:Inv X pins σ H s)(g:DGet H a y o)(j:RelV y u)(h:∀ s',Inv X pins σ H s'->Q (.bool o.isSome) s') :
  wpAny (model X.prog X.w) A (compareOp .In u (.ref a)) Q E s:=by
 rcases g with⟨kvs,k,e,f,l⟩ | ⟨kvs,k,b,e,f,m,l⟩
 .subst f;obtain⟨z,i,vs,c,d⟩:=qd9 I.hok e;show wpAny_in_of (qev j) i d.mapOf ?_;rw[<- (c.val k).isSome_eq,<- l];show h _ (I.tok _)
 .subst f;cases (show u=Value.ref b from j);obtain⟨z,i,xs,c,d⟩:=qew I.hok e;show wpAny_in_heap (xZ n) (qcO I.hok m) i d ?_;have q:=(c.val k).isSome_eq;rw[kj] at q;rw[<- q,<- l];show h _ (I.tok _)
theorem d_notIn{Q:Value->Shared->Prop}(n:A.units+1<cLine)(I:Inv X pins σ H s)(g:DGet H a y o)(j:RelV y u)(h:∀ s',Inv X pins σ H s'->Q (.bool (!o.isSome)) s') :
  wpAny (model X.prog X.w) A (compareOp .NotIn u (.ref a)) Q E s:=by
 rcases g with⟨kvs,k,e,f,l⟩ | ⟨kvs,k,b,e,f,m,l⟩
 .subst f;obtain⟨z,i,vs,c,d⟩:=qd9 I.hok e;show wpAny_notIn_of (qev j) i d.mapOf ?_;rw[<- (c.val k).isSome_eq,<- l];show h _ (I.tok _)
 .subst f;cases (show u=Value.ref b from j);obtain⟨z,i,xs,c,d⟩:=qew I.hok e;show wpAny_notIn_heap (xZ n) (qcO I.hok m) i d ?_;have q:=(c.val k).isSome_eq;rw[kj] at q;rw[<- q,<- l];show h _ (I.tok _)
theorem qex{c:HO}(I:Inv X pins σ H s)(g:Mut (H a))(f:Heap.SameBut a s.heap h')(d:∃ q,h'.get? a=some q)(new:ObjOk X.prog X.w (upd H a c) h' a c) :
  Inv X pins σ (upd H a c) { s with heap:=h',toks:=t' }:=
 I.write (x:=a) (e:=a) g (.inl rfl) (λb q hb z=>(f.2 b hb).trans z) d new
theorem dk_new{kvs:List (Key×V)}{vs:List (Key×Value)}(z:kvs.length<=sizeLine)(d:(a==sysModules)=false)(b:KV kvs vs)(c:h'.DictOf (jy P w) a vs) :
  ObjOk P w H' h' a (.dK kvs):=⟨z,d,vs,b,c⟩
theorem d_setItem{Q:Unit->Shared->Prop}(N:A.units+1<cLine)(I:Inv X pins σ H s)(g:DPut H a y v H')(D:RelV y u)(C:RelV v r)(h:∀ s',Inv X pins σ H' s'->Q () s') :
  wpAny (model X.prog X.w) A (setItem (.ref a) u r) Q E s:=by
 rcases g with⟨kvs,k,e,n,l,m⟩ | ⟨kvs,k,b,e,n,x,l,m⟩
 .subst n m;obtain⟨z,o,vs,d,j⟩:=qgy I.hok e;have t:vs.length<=sizeLine:=by rw[<- d.length];show z
  have hl:(qdg kvs k v).length<=sizeLine:=by have:=qax kvs k v;lk
  show wpAny_setItem_pairs (hsz:=t) (qev D) j λh' f p=>h _ ?_;have M:∃ q,h'.get? a=some q:=let ⟨q,_,_,i,_⟩:=f;⟨q,i⟩;show qex I (by rw[e];show Yp) p M (dk_new hl o (d.put k C) f)
 .subst n m;cases (show u=Value.ref b from D);obtain⟨z,o,xs,d,j⟩:=dt_of I.hok e;have t:xs.length<=sizeLine:=by rw[<- Paired.length d];show z
  have hl:(qdg kvs k v).length<=sizeLine:=by have:=qax kvs k v;lk
  show wpAny_setItem_heap (hsz:=t) (xZ N) (qcO I.hok x) j λh' f p=>h _ ?_;obtain⟨q,F,ep,i,G,J,K,_,L⟩:=f;show qex I (by rw[e];show Yp) p ⟨q,i⟩ ⟨hl,o,_,(d.put k x C).keeps λc ys B=>?_,q,F,ep,i,G,J,K,L⟩;rw[qh (jx B e (λz=>nomatch z))];show B
end
section
variable{X:Cx}{pins:List (Addr×Obj)}{σ:St}{H:Hp}{s:Shared}{a:Addr}{kvs:List (Key×V)}{k:Key}{u:Value}{A:Around}{E:Value->Shared->Prop}
theorem d_len{Q:Value->Shared->Prop}(I:Inv X pins σ H s)(e:Rd H a (.dK kvs))(h:∀ t s',Inv X pins σ H s'->Q (.int kvs.length t) s'):wpAny (model X.prog X.w) A (call (.builtin "len") [.ref a]) Q E s:=by
 obtain⟨z,d,vs,b,c⟩:=qd9 I.hok e;show call_len_dict d c (by rw[<- b.length];rw[kD] at z;lk) ?_;rw[<- b.length];show h _ _ (I.tok _)
end
theorem dict_typeIs{X:Cx}(I:Inv X pins σ H s)(g:DGet H a y o):s.TypeIs (.ref a) "dict":=by
 rcases g with⟨kvs,k,e,_,_⟩ | ⟨kvs,k,b,e,_,_,_⟩
 .obtain⟨_,_,vs,_,c⟩:=qd9 I.hok e;show c.typeIs
 .obtain⟨_,_,xs,_,c⟩:=qew I.hok e;show c.typeIs
section
variable{X:Cx}{o i e value:Expr}{pos pos' tpos:Pos}{td ty tv:TE}
end
theorem dk_empty(h:Heap)(hb:sysModules<h.objs.size):ObjOk P w H (h.push { cls:=.type "dict",data:=.dict #[] }) h.objs.size (.dK []):=
 ⟨YX _,yZ.mpr (YW (yG hb)),[],.nil,Heap.DictOf.new h⟩
def qey:TE:=λ_ H Q=>∀ p,H p=none->Q (.ref p) (upd H p (.dK []))
section
variable{X:Cx}{pos:Pos}
theorem qcc:PE X (.Dict [] [] pos) qey:=λpins s σ H Q I h =>
 wpAny_Dict_empty ⟨.ref s.heap.objs.size,_,I.laid (a:=s.heap.objs.size) (o:=.dK []) (t':=s.toks) (λ_ _ q=>yq _ q) (yg _) (dk_empty s.heap I.big),rfl,h _ (I.hok.fresh (yg _))⟩
end
structure M1(X:Cx)(o:Expr)(m:Str)(apos:Pos)(e:Expr)(cpos:Pos):Prop where
 base:attributeBase o m X.env (eval o X.env)=eval o X.env
 few:((backTo cpos (starEach [e] X.env)).all (λx=>!x.1)&&(backToKw cpos (keywordEach [] X.env)).all (λx=>x.1.isSome)
  && decide (([e]:List Expr).length+([]:List Keyword).length+(if ([]:List Keyword).isEmpty then 0 else 1)<30))=true
 line:(apos.endLine==cpos.line)=true
 trees:backTo cpos (starEach [e] X.env)=[(false,eval e X.env)]
structure M2(X:Cx)(o:Expr)(m:Str)(apos:Pos)(e f:Expr)(cpos:Pos):Prop where
 base:attributeBase o m X.env (eval o X.env)=eval o X.env
 few:((backTo cpos (starEach [e,f] X.env)).all (λx=>!x.1)&&(backToKw cpos (keywordEach [] X.env)).all (λx=>x.1.isSome)
  && decide (([e,f]:List Expr).length+([]:List Keyword).length+(if ([]:List Keyword).isEmpty then 0 else 1)<30))=true
 line:(apos.endLine==cpos.line)=true
 trees:backTo cpos (starEach [e,f] X.env)=[(false,eval e X.env),(false,eval f X.env)]
def IsD(H:Hp)(a:Addr):Prop:=(∃ kvs,Rd H a (.dK kvs))\/∃ kvs,Rd H a (.dT kvs)
section
variable{X:Cx}{pins:List (Addr×Obj)}{σ:St}{H:Hp}{s:Shared}{a:Addr}{y d:V}{u r:Value}{o:Option V}{A:Around}{E:Value->Shared->Prop}
end
def tDGet2(e ty f:TE):TE:=fun σ H Q=>e σ H λx b=>∃ a,x=.ref a/\IsD b a/\ty σ b λy d=>f σ d λz c=>∃ o,DGet c a y o/\Q (o.getD z) c
section
variable{X:Cx}{o e f:Expr}{apos cpos:Pos}{td ty tx:TE}
end
section
variable{X:Cx}{pins:List (Addr×Obj)}{σ:St}{H:Hp}{s:Shared}{a:Addr}{kvs:List (Key×V)}{A:Around}{E:Value->Shared->Prop}
end
section
variable{X:Cx}{pins:List (Addr×Obj)}{σ:St}{H:Hp}{s:Shared}{a:Addr}{y:V}{u:Value}{A:Around}{E:Value->Shared->Prop}
end
end L2
namespace Att
open PySem PySem.W PySem.Calls PyProof.Rows
variable{P:Params}{h:Heap}{l:OpenLaw}{n:Nat}
theorem ints_of_wellAll:∀(ns:LY) (vs:List Value),WellAll P h vs (ns.map WData.int)->IntsAre vs ns:=by
 intro ns
 induction ns with
 | nil =>
  intro vs w;rw[kJ] at w;cases w;show .nil
 | cons n ns ih =>
  intro vs w;rw[yP] at w
  cases w with
  | cons a b =>
   cases a;show .cons _ _ (ih _ b)
theorem script_of(p:l.most=some n){args:List WData}{c:List Value}
  (b:l.row.toRowW.claim.pre args=true) (j:WellAll P h c args) :
  ∃ a vs ns,c=[Value.ref a]/\args=[WData.list (ns.map WData.int)]/\h.get? a=some { cls:=.type "list",data:=.seq vs.toArray }/\IntsAre vs ns/\ns.length<=n:=by
 have i:WShape.hasAll [] args [.list .int]=true:=(pre_splitW b).1;have hc:l.pre.holds [] { args:=args }=true:=(pre_splitW b).2;obtain⟨d,r,rfl,h1,m⟩:=hasAllW_cons i;obtain rfl:=hasAllW_nil m;obtain⟨xs,rfl,o⟩:=hasW_list h1;obtain⟨ns,rfl⟩:=items_int o
 have e:ns.length<=n:=by
  unfold OpenLaw.pre at hc
  have f:(WTm.not (.lt (.lit (.int (n:Int))) (.len (.arg 0)))).holds [] { args:=[.list (ns.map .int)] }=true:=by
   have f:=(holds_andW hc).1;rw[p] at f;show f
  have g:=condW_of f (w_not (w_lt w_lit (w_len_list (w_arg rfl))));rw[ya] at g;show Nat.le_of_not_lt λq=>?_;have s:(n:Int)<((ns.length:Nat):Int):=by lk
  first
   | (rw[yL s] at g;show absurd g (by decide))
   | (simp at g;lk)
 cases j with
 | cons w1 w2 =>
  cases w2
  cases w1 with
  | list ho hall=>show⟨_,_,ns,rfl,rfl,ho,ints_of_wellAll ns _ hall,e⟩
theorem post_true(l:OpenLaw)(args:List WData):l.row.toRowW.claim.post args (.bool true) args=true:=
 postW_of (r:=l.row.toRowW) (X:=(true==true))
  (show WShape.has [] (.bool true) .bool=true by first | rfl | decide | simp[WShape.has,WShape.arms,WShape.armsAll])
  (show(WTm.eq .res (.lit (.bool true))).value [] { args:=args,res:=some (.bool true),after:=args }=some (.bool (true==true)) from w_eq_bool (w_res rfl) w_lit) rfl
theorem attach_call{q:Program}{loose:LN}{XP:(Str->Option Value)->Heap->Prop}{YP:World->Heap->Prop}{d:DefRec}
  (L:l.most=some n) (t:d.params.defaults=[])
  (call:∀(w:World) (c b:Shared) (mg x:Str->Option Value) (h:Addr) (o:Obj) (y p e:Value) (a:Addr) (vs:List Value) (ns:LY),
   Ground q loose [] XP w c mg x b.heap->YP w b.heap ->
   b.heap.get? h=some o->o.data=.func (docDef d.name d.params d.body d.scope y p e)->b.heap.CodeRec p d.name->mg d.name=some (.ref h) ->
   b.heap.get? a=some { cls:=.type "list",data:=.seq vs.toArray }->IntsAre vs ns->ns.length<=n->b.gens=#[] ->
   codeAny (model l.prog w) callerA (.call (.ref h) ⟨[.ref a],[]⟩) (λr s'=>r=.ok (.ret (.bool true))/\OldK b.heap s'.heap/\s'.os=b.os/\AllBare s'.gens) b) :
  WalkO q loose XP YP l.row.toRowW d [] (λf vs=>PySem.call f vs):=by
 intro w c b mg x G Y h o y p e C kV M H s z u I args B P m A O v J;obtain rfl:C=.none:=Dflts.none z t;obtain rfl:kV=.none:=Dflts.noKw z;obtain⟨a,vs,ns,rfl,rfl,j,g,i⟩:=script_of L m v;show enter_call (YN (call w c b mg x h o y p e a vs ns G Y M (fd_plain H) s u j g i I) λr s' N=>?_);obtain⟨rfl,D,E,F⟩:=N;show⟨.inl ⟨.bool true,.bool true,[],rfl,λ_=>rfl,.bool true,post_true l _,λ_=>⟨List.Pairwise.nil,λ_ K=>(nomatch K)⟩⟩,D,E,F⟩
section
variable{prog:Program}{w:World}{A:Around}{E:Value->Shared->Prop}{s:Shared}{K:Frag}
def ledger(h:Heap)(L d:Addr):List (Addr×Obj):=(List.range h.objs.size).filterMap λa=>if a=L\/a=d then none else(h.get? a).map λo=>(a,o)
end
end Att
namespace L2
open PySem PySem.Spec PyProof.Rows
variable{A B:Prop}{H H':Hp}{a f:Addr}{fd:FuncData}{n:Nat}{ps:LN}{qual x:Str}{sp:Sp}{st:Stmt}
theorem qbA:∀{vs:List Value} {ns:LY},IntsAre vs ns->Vals (ns.map V.int) vs
 | _,_,.nil=>.nil
 | _,_,.cons n t h=>.cons ⟨t,rfl⟩ (qbA h)
def qhd(H:Hp):Prop:=∀ b,H b=none\/∃ o xs,H b=some (.frz o (.lst xs))
theorem law_call{P:Program}{w:World}{K:yf}{mg O:Str->Option Value}{CX:CXT}{k:Nat}{I:Addr}{c:Shared}{vs:List Value}{ns:LY}
  (S:K.In c.heap) (y:c.heap.Ns mainGlobals mg) (hb:c.heap.Ns builtinsNs O) (L:∀ x:Str,x≠"__name__"->O x=bootBuiltins x) (t:c.heap.NoLimit) (hg:c.gens=#[])
  (E:c.heap.get? a=some { cls:=.type "list",data:=.seq vs.toArray }) (X:IntsAre vs ns) (hl:ns.length<=sizeLine) (hr:Room k callerA)
  (F:∀ base:Heap,K.In base->base.Ns mainGlobals mg->FnOk P w K mg base CX k I fd [x] sp) (i:∀(s:Shared) (u:Value),BindsTo s fd ⟨[u],[]⟩ [(x,u)])
  (N:∀ H:Hp,qhd H->SqL K H a (ns.map V.int)->sp [.ref a] H (λv _=>v=.bl true) λ_ _ _=>False)
  (J:∀ H e s',CX [] H c (λ_ _ _=>False) e s'->False) :
  codeAny (model P w) callerA (.call (.ref I) ⟨[.ref a],[]⟩) (λr s'=>r=.ok (.ret (.bool true))/\OldK c.heap s'.heap/\s'.os=c.os/\AllBare s'.gens) c:=by
 have Y:=qbA X;have C:=X.length;have g:∀ H:Hp,qhd H->SqL K H a (ns.map V.int)->HOk P w H c.heap->(∀ b,H b≠none->b=a)->(H a≠none->K.lookup a=none) ->
   codeAny (model P w) callerA (.call (.ref I) ⟨[.ref a],[]⟩) (λr s'=>r=.ok (.ret (.bool true))/\OldK c.heap s'.heap/\s'.os=c.os/\AllBare s'.gens) c:=by
  intro H W hS A U hK;have base_of:∀{b:Addr} {o:Obj},c.heap.get? b=some o->H b=none->(qdy c.heap H).get? b=some o:=λe n=>qdz e n
  have R:∀{b:Addr} {o:Obj} {l:Array DictEntry} {ep:Nat},c.heap.get? b=some o->o.data=.dict l ep->H b=none:=λ{b o l ep} e d=>by
   cases q:H b with
   | none=>rfl
   | some u =>
    have G:b=a:=U b (by rw[q];simp);subst G;rw[E] at e;cases e;have d':Data.seq vs.toArray _=Data.dict l ep:=d;cases d'
  have f:∀{b:Addr} {m:Str->Option Value},c.heap.Ns b m->(qdy c.heap H).Ns b m:=λ{b m} ⟨o,l,ep,e,d,r⟩=>⟨o,l,ep,base_of e (R e d),d,r⟩
  have p:K.In (qdy c.heap H):=λb o e=>base_of (S b o e) (by
   cases q:H b with
   | none=>rfl
   | some u =>
    have G:b=a:=U b (by rw[q];simp);subst G;rw[hK (by rw[q];simp)] at e;cases e)
  have hM:Mod K mg (qdy c.heap H):=⟨p,f y,⟨O,f hb,L⟩,let ⟨mc,h1,h2⟩:=t;⟨mc,f h1,h2⟩⟩;have Z:Env0 P w K mg (qdy c.heap H) callerA [] c H:=⟨rfl,hM,λb o e=>qej e,XY (qct _ _),trivial,λb hb=>absurd (show b∈([]:LX) from hb) (by simp),A,.of_eq hg⟩;show YN ((F _ p (f y)).run callerA [] c H ⟨[.ref a],[]⟩ [.ref a] [.ref a] _ _ hr Z (i c (.ref a)) (.cons rfl .nil) (N H W hS)) λr s' h=>?_
  cases r with
  | error e=>show(J H e s' h).elim
  | ok fl =>
   cases fl with
   | next=>show False.elim h
   | brk=>show False.elim h
   | cont=>show False.elim h
   | ret u =>
    obtain⟨v,H',os,j,un,B,r',q⟩:=h;have q':v=.bl true:=q;subst q';obtain rfl:u=Value.bool true:=r';show⟨rfl,OldK.of_keep λb o e=>?_,os,j⟩
    cases q:H b with
    | none=>show un.keep b o e q (by intro z;show absurd (show b∈([]:LX) from z) (by simp)) (by simp)
    | some u =>
     rcases W b with z | ⟨ob,xs,z⟩
     .rw [q] at z;cases z
     .have z2:=un.frzs b ob _ z;obtain⟨T,_⟩:=A b _ z;obtain⟨e2,_⟩:=B b _ z2;rw[e] at T;cases T;show e2
 cases M:K.lookup a with
 | some o =>
  have e:=S a o M;rw[E] at e;cases e;show g (λ_=>none) (λ_=>.inl rfl) (.inr ⟨_,vs.toArray,_,M,rfl,rfl,rfl,by rw[yr,C];show hl,by simpa using Y⟩) (λb u z=>by have D:(none:Option HO)=some u:=z;cases D) (λb z=>absurd rfl z) λz=>absurd rfl z
 | none =>
  show g (λb=>if b=a then some (.frz { cls:=.type "list",data:=.seq vs.toArray } (.lst (ns.map V.int))) else none) (λb=>?_) (.inl (.inr ⟨{ cls:=.type "list",data:=.seq vs.toArray },yB rfl⟩)) (λb u z=>?_) (λb z=>?_) λ_=>M
  .by_cases hb:b=a
   .show .inr ⟨_,_,yB hb⟩
   .show .inl (yw hb)
  .by_cases hb:b=a
   .have D:=(yB hb).symm.trans z;cases D;subst hb;show⟨E,by rw[ya];show hl,vs,_,Y,E⟩
   .have D:=(yw hb).symm.trans z;cases D
  .by_cases hb:b=a
   .show hb
   .show absurd (yw hb) z
abbrev KOf{K:yf}{h:Heap}(_:K.In h):yf:=K
theorem walk_of{l:PySem.W.OpenLaw}{k:Nat}{q:Program}{loose:LN}{XP:(Str->Option Value)->Heap->Prop}{YP:World->Heap->Prop}{d:DefRec}{K:Params->yf}{CX:World->CXT}{sp:World->Sp}
  (O:l.most=some n) (z:n<=sizeLine) (t:d.params.defaults=[]) (P:Room k callerA)
  (L:∀(w:World) (h:Heap),YP w h->(K w.params).In h)
  (F:∀(w:World) (mg:Str->Option Value) (p:Addr) (h:Heap),(K w.params).In h->h.Ns mainGlobals mg->mg d.name=some (.ref p) ->
   ∃ fd:FuncData,(∀(s:Shared) (u:Value),BindsTo s fd ⟨[u],[]⟩ [(x,u)]) /\
    ∀ base:Heap,(K w.params).In base->base.Ns mainGlobals mg->FnOk l.prog w (K w.params) mg base (CX w) k p fd [x] (sp w))
  (A:∀(w:World) (H:Hp) (a:Addr) (ns:LY),ns.length<=n->qhd H->SqL (K w.params) H a (ns.map V.int)->sp w [.ref a] H (λv _=>v=.bl true) λ_ _ _=>False)
  (r:∀(w:World) (H:Hp) (s:Shared) (e:Value) (s':Shared),CX w [] H s (λ_ _ _=>False) e s'->False) :
  PySem.W.WalkO q loose XP YP l.row.toRowW d [] (λf vs=>PySem.call f vs):=by
 show Att.attach_call O t λw C m mg X p o Z R D a vs ns G Y U S M y j i c N=>?_;have B:=L w _ Y;obtain⟨fd,hb,E⟩:=F w mg p _ B G.T.g y;show law_call B G.T.g G.T.b G.T.builtins G.T.nolimit N j i (yh c z) P E hb (λH I J=>A w H a ns c I J) λH e s'=>r w H m e s'
abbrev CX0:CXT:=λ_ _ _ _ _ _=>False
abbrev E0:XK:=λ_ _ _=>False
theorem qN{X:Cx}:zR CX0 X E0:=λ_ _ _ _ _ _ _ h=>h.elim
structure Fun(K:yf)(x qual:Str)(st:Stmt)(f:Addr)(fd:FuncData):Prop where
 ex:∃(oc:Value) (od:Option Addr) (kV doc pm:Value) (an:Option Addr) (cdv ct:Value) (osl:Array (Option Value)),
  fd=PySem.W.fnOf x qual (qay st) (jJ st) (qd st) .none kV doc pm an cdv ct/\K.lookup f=some ⟨oc,od,.func fd,osl⟩/\PySem.W.codeIn K cdv qual=true
 kp:PySem.W.keepIn K (.ref f)=true
section
variable{P:Program}{w:World}{K:yf}{mg:Str->Option Value}{base:Heap}
theorem Fun.ok{N:LN}{k:Nat}(F:Fun K x qual st f fd)(S:FnScope N ps (qd st))(len:∀ vs H Q E,sp vs H Q E->vs.length=ps.length)
  (c:∀(b:Value) (A:Around) (a:List Env) (s:Shared) (H:Hp) (vs:List V) (Q:VK) (E:XK),Room k (A.deeper (envOfC qual (qd st) s.heap.objs.size f b))->sp vs H Q E ->
   ∃ t,PSs (qe7 CX0 P w K mg base N qual (qd st) f b A a s H E).nox (jJ st) t/\t { nx:=λ_ H'=>Q .non H',rt:=Q } (jP N vs) H):wqY (k+1) f fd ps sp:=by
 obtain⟨n,od,kV,g,o,m,b,ct,l,rfl,j,d⟩:=F.ex;show qgv j d S len λA a s H vs Q E i e=>?_;obtain⟨t,h,q⟩:=c b A a s H vs Q E i e;show⟨t,h.nox,q⟩
theorem Fun.binds(F:Fun K x qual st f fd)
  (h:∀(kV b d:Value) (c:Option Addr) (a ct:Value) (us:List Value),us.length=ps.length->bindArgs (PySem.W.fnOf x qual (qay st) (jJ st) (qd st) .none kV b d c a ct) ⟨us,[]⟩=pure (ps.zip us)):Binds K fd ps []:=by
 obtain⟨j,od,kV,b,d,c,a,ct,g,rfl,i,e⟩:=F.ex;show .all (h kV b d c a ct)
theorem fun_mk{h:Value}{od e:Option Addr}{d:Array (Option Value)}{kV b g a ct:Value}(l:K.lookup f=some ⟨h,od,.func (PySem.W.fnOf x qual (qay st) (jJ st) (qd st) .none kV b g e a ct),d⟩)
  (c:PySem.W.codeIn K a qual=true) (k:PySem.W.keepIn K (.ref f)=true):Fun K x qual st f (PySem.W.fnOf x qual (qay st) (jJ st) (qd st) .none kV b g e a ct):=⟨⟨h,od,kV,b,g,e,a,ct,d,rfl,l,c⟩,k⟩
end
theorem qk(h:n<=1000):n<sizeLine:=YG h (by decide)
section
variable{X:Cx}
theorem pv(i:Nat){pos:Pos}(b:X.N[i]?=some x:=by rfl)(hv:Vis X.env.scope x:=by first | show yJ rfl | show xO (yJ rfl) | show xO (xO rfl))(c:(x==("__debug__":Str))=false:=by decide)
  (a:(x==("__classdict__":Str))=false:=by decide):PE X (.Name x pos) (qfc i):=qfo b hv c a
theorem call_lenD:zX X (.builtin "len") (λxs H Q=>∃ a kvs,xs=[V.ref a]/\H a=some (.dK kvs)/\Q (.int kvs.length) H):=by
 intro b s f H xs us Q I r h;obtain⟨a,kvs,rfl,d,q⟩:=h;obtain⟨u,rfl,e⟩:=qcB r;cases e;show d_len I (.inl d) λt s' c=>⟨.int kvs.length,H,c,⟨t,rfl⟩,q⟩
end
theorem qbB(h:A):if true=true then A else B:=by
 rw[yB rfl];show h
theorem qU{c:Prop}[Decidable c](h1:c->A)(a:¬ c->B):if c then A else B:=by
 by_cases h:c
 .rw [yB h];show h1 h
 .rw [yw h];show a h
def Same(H H':Hp):Prop:=∀ b o,H b=some o->H' b=some o
theorem Same.refl(H:Hp):Same H H:=λ_ _ h=>h
theorem Same.trans{d e:Hp}(a:Same H d)(b:Same d e):Same H e:=λc o h=>b c o (a c o h)
theorem Same.free(e:Same H H'){l:Addr}(h:H' l=Option.none):H l=Option.none:=by
 cases q:H l with
 | none=>rfl
 | some o =>
  rw[e l o q] at h;cases h
theorem Same.seq{K:yf}{xs:List V}(e:Same H H')(h:SqL K H a xs):SqL K H' a xs:=by
 rcases h with(h | ⟨o,h⟩) | h
 .show .inl (.inl (e _ _ h))
 .show .inl (.inr ⟨o,e _ _ h⟩)
 .show .inr h
section
variable{κ:Type}[DecidableEq κ]
end
end L2
set_option maxHeartbeats 4000000
namespace L2
open PySem PySem.Spec PyProof.Rows
variable{A:Around}{C D a a0 c e f it p:Addr}{E:Value->Shared->Prop}{H H':Hp}{M:Model}{N ps:LN}{P prog:Program}{QO:Option Int->Hp->Prop}{R:It->Hp->Prop}{T:String}{X:Cx}{acc:List (Str×Addr)}{b expr:Bool}{base h h':Heap}{dx:Option Addr}{elt iter tg:Expr}{env:Env}{fd:FuncData}{fl t u:Value}{fp zs:LX}{g:TG}{i j:Int}{ifs:List Expr}{its l us:List Value}{ixs:LQ}{mg:Str->Option Value}{n nl:Nat}{names:List (Str×NameKind)}{od:Option Obj}{ox:Obj}{pins:List (Addr×Obj)}{pl:Sem Bool}{pos:Pos}{qual x z:Str}{s:Shared}{sc scope:Scope}{sp:Sp}{tc:TT}{te:TE}{tk:Tok}{v y:V}{vs xs ys:List V}{w:World}{wi:TI}{α:Type}{σ:St}
section
variable{prog:Program}{w:World}{A:Around}{R:Result->Shared->Prop}{s:Shared}
theorem compLoop_own{a:Expr}{it acc:Value}(I:Nat->Shared->Prop)
  (d:∀ n s,I n s->wpAny (model prog w) A (pyNext it) (λr f=>match r with
   | none=>R (.ok .next) f
   | some v=>wpAny (model prog w) A (letOwnedTupleGo a it v) (λ_ b=>wpAny (model prog w) A (assign a env v) (λ_ j =>
     wpAny (model prog w) A (forIn ifs true λc r=>if r=true then do let ok <- isTrue c env (eval c env);pure (ForInStep.yield ok) else pure (ForInStep.yield r)) (λok g =>
      if ok=true then wpAny (model prog w) A (eval elt env) (λx l =>
       wpAny (model prog w) A (call (.builtin "list.append") [acc,x]) (λ_ o=>∃ m,m<n/\I m o) (λ_ _=>False) l) (λ_ _=>False) g
      else ∃ m,m<n/\I m g) (λ_ _=>False) j) (λ_ _=>False) b) (λ_ _=>False) f) (λ_ _=>False) s)
  (n:Nat) (h:I n s) :
  codeAny (model prog w) A (.compLoop (.ListComp elt [⟨a,iter,ifs,0⟩] scope pos) 0 it acc env) R s:=by
 show codeAny_loop rfl I (λn s u=>?_) n h;show wpAny _ A ((compTurn (.ListComp elt [⟨a,iter,ifs,0⟩] scope pos) 0 it acc env).onRaise (λx=>do noteFrame x env;theTreesLotGoes x)) _ _ s;show wpAny_noted ?_;rw[compTurn_list];show yp (xG (yp (Yd (d n s u) (λr f h1=>?_) λ_ _ h'=>h'.elim)))
 cases r with
 | none=>show yu h1
 | some v =>
  show yp (Yd h1 (λ_ b e=>?_) λ_ _ h'=>h'.elim);show yp (Yd e (λ_ j p=>yp (Yd p (λok g i=>?_) λ_ _ h'=>h'.elim)) λ_ _ h'=>h'.elim)
  cases ok with
  | false=>show yu ⟨rfl,i⟩
  | true =>
   show yp (yp (Yd i (λx l q=>yp (Yd q (λ_ o t=>yu (yu ⟨rfl,t⟩)) λ_ _ h'=>h'.elim)) λ_ _ h'=>h'.elim))
end
def qC(env:Env):List (Str×NameKind)->List (Str×Addr)->List (Str×Addr)
 | [],acc=>acc
 | (n,k)::r,acc=>qC env r (if (k==.free)=true then(n,(env.cells.lookup n).getD 0)::acc else acc)
theorem zA:∀{names:List (Str×NameKind)} {acc:List (Str×Addr)} {x:Str} {c:Addr},(qC env names acc).lookup x=some c ->
  ((x,NameKind.free)∈names/\c=(env.cells.lookup x).getD 0)\/acc.lookup x=some c
 | [],_,_,_,h=>.inr h
 | (n,k)::r,acc,x,c,h=>by
  unfold qC at h;rcases zA h with⟨h1,f⟩ | h1
  .show .inl ⟨yz _ h1,f⟩
  .by_cases a:(k==NameKind.free)=true
   .rw [yB a,xA] at h1
    cases b:x==n with
    | true =>
     rw[b] at h1;have e:x=n:=yM.mp b;have d:k=.free:=yM.mp a;subst e d;show .inl ⟨yC,(yl h1).symm⟩
    | false =>
     rw[b] at h1;show .inr h1
   .rw [yw a] at h1;show .inr h1
theorem qaK:∀{names:List (Str×NameKind)} {acc:List (Str×Addr)} {x:Str},(∃ c,acc.lookup x=some c)->∃ c,(qC env names acc).lookup x=some c
 | [],_,_,h=>h
 | (n,k)::r,acc,x,h=>by
  unfold qC;apply qaK;by_cases a:(k==NameKind.free)=true
  .rw [yB a,xA]
   cases b:x==n with
   | true=>show⟨_,rfl⟩
   | false=>show h
  .rw [yw a];show h
theorem zB:∀{names:List (Str×NameKind)} {acc:List (Str×Addr)} {x:Str},(x,NameKind.free)∈names->∃ c,(qC env names acc).lookup x=some c
 | [],_,_,h=>by cases h
 | (n,k)::r,acc,x,h=>by
  unfold qC;rcases yt.mp h with e | e
  .cases e;apply qaK;rw[show(NameKind.free==NameKind.free)=true from rfl,yB rfl,xA,YY];show⟨_,rfl⟩
  .show zB e
theorem qaL(h:∀ n,(n,NameKind.free)∈scope.names->∃ c,env.cells.lookup n=some c):closureFor scope env=pure (qC env scope.names []):=by
 have f:∀(names:List (Str×NameKind)) (acc:List (Str×Addr)),(∀ n,(n,NameKind.free)∈names->∃ c,env.cells.lookup n=some c) ->
   (forIn names acc (λ(x:Str×NameKind) (r:List (Str×Addr))=>(if (x.2==NameKind.free)=true then(cellOf env x.1>>=λc=>pure (ForInStep.yield ((x.1,c)::r))) else pure (ForInStep.yield r):Sem (ForInStep (List (Str×Addr))))))=(pure (qC env names acc):Sem (List (Str×Addr))):=by
  intro names
  induction names with
  | nil=>intro acc _;rfl
  | cons x r ih =>
   intro acc d;obtain⟨n,k⟩:=x;rw[List.forIn_cons];unfold qC;by_cases a:(k==NameKind.free)=true
   .have g:k=.free:=yM.mp a;subst g;obtain⟨c,hc⟩:=d n yC;have i:cellOf env n=pure c:=by unfold cellOf;rw[hc]
    simp only[a,xI,i,hc,Option.getD_some];show ih _ λm b=>d m (yz _ b)
   .simp only[a,ku];show ih _ λm b=>d m (yz _ b)
 have e:=f scope.names [] h;unfold closureFor;show Eq.trans (congrArg (λm=>m>>=pure) e) rfl
@[reducible] def Cx.comp(X:Cx)(N:LN)(scope:Scope)(C:Addr)(s0:Shared)(H0:Hp)(ex:LX):Cx where
 prog:=X.prog
 w:=X.w
 K:=X.K
 mg:=X.mg
 base:=X.base
 A:=X.A
 N:=N
 s₀:=s0
 H₀:=H0
 env:=compEnvC scope (cellsFrom (C+1) scope.names (qC X.env scope.names [])) C X.env
 outer:=X.stack
 stack:=X.stack
 ex:=ex
 fn:=λx=>scope.names.lookup x==some NameKind.cell
 calm:=X.calm
 pn:=[]
 xe:=λ_ _=>False
theorem jh:∀(names:List (Str×NameKind)) (n:Nat) (acc:List (Str×Addr)),cellsFrom n names acc=cellsFrom n names []++acc
 | [],_,_=>rfl
 | (m,k)::r,n,acc=>by
  unfold cellsFrom;split
  .rw [jh r (n+1) ((m,n)::acc),jh r (n+1) [(m,n)],xK];rfl
  .show jh r n acc
theorem qaM:∀{names:List (Str×NameKind)} {n:Nat} {x:Str},(x,NameKind.cell)∈names->∃ c,(cellsFrom n names []).lookup x=some c
 | (m,k)::r,n,x,h=>by
  unfold cellsFrom;rcases yt.mp h with e | e
  .cases e;rw[yB (show(NameKind.cell==NameKind.cell)=true from rfl),jh,xj]
   cases q:(cellsFrom (n+1) r []).lookup m with
   | some c=>show⟨c,rfl⟩
   | none=>show⟨n,by show List.lookup m [(m,n)]=some n;rw[xA,YY]⟩
  .split
   .rw [jh,xj];obtain⟨c,hc⟩:=qaM (n:=n+1) e;show⟨c,by rw[hc];rfl⟩
   .show qaM e
theorem qbC:∀{names:List (Str×NameKind)} {n:Nat} {x:Str} {c:Addr},(x,c)∈cellsFrom n names []->(x,NameKind.cell)∈names
 | (m,k)::r,n,x,c,h=>by
  unfold cellsFrom at h;split at h
  .rename_i hk
   rw[jh] at h;rcases Yj.mp h with z | z
   .show yz _ (qbC z)
   .have e:(x,c)=(m,n):=yA.mp z;cases e;rw[yM.mp hk];show yC
  .show yz _ (qbC h)
theorem qbD(h:(cellsFrom n names acc).lookup x=some c):(x,c)∈cellsFrom n names []\/acc.lookup x=some c:=by
 rw[jh,xj] at h
 cases e:(cellsFrom n names []).lookup x with
 | some d=>rw[e] at h;cases h;show .inl (mem_of_lookup e)
 | none=>rw[e] at h;show .inr h
theorem cells_some(h:(x,NameKind.cell)∈names\/∃ c,acc.lookup x=some c):∃ c,(cellsFrom n names acc).lookup x=some c:=by
 rw[jh,xj]
 cases e:(cellsFrom n names []).lookup x with
 | some d=>show⟨d,rfl⟩
 | none =>
  rcases h with z | ⟨c,hc⟩
  .obtain⟨d,a⟩:=qaM (n:=n) z;rw[e] at a;cases a
  .show⟨c,hc⟩
section
variable{M:Model}{A:Around}{E:Value->Shared->Prop}{s:Shared}
theorem newEnvK{c:Addr}{b:List (Str×Addr)}{f:Option Addr}{e:Value}{d:Env}{a:Addr}{Q:Env->Shared->Prop}
  (h:Q (newEnv scope s.heap.objs.size c (cellsFrom (s.heap.objs.size+1) scope.names b) qual f e (some d) a) { s with heap:=pushCells (s.heap.push { cls:=.type "dict",data:=.dict #[] }) scope.names }) :
  wpAny M A (newFunctionEnv scope c b [] qual f e (some d) a) Q E s:=by
 simp only[newFunctionEnv,Option.isSome_some,xI];show yp (wpAny_alloc ?_);show yp (wpAny_layCells _ (λname kind cells=>by cases g:kind==NameKind.cell<;>simp[g]) _ _ _ _ ?_);rw[show({ s with heap:=s.heap.push { cls:=.type "dict",data:=.dict #[] } }:Shared).heap.objs.size=s.heap.objs.size+1 from YQ ..];rw[List.forIn_nil];show yp (yu (yu h))
end
structure CompOk(sc scope:Scope):Prop where
 kind:scope.kind=.function
 cel:∀ y∈scope.names,y.2=.cell->scope.names.lookup y.1=some .cell
 loc:∀ y∈scope.names,y.2=.local->scope.names.lookup y.1=some .local
 free:∀ y∈scope.names,y.2=.free->sc.names.lookup y.1=some .cell\/sc.names.lookup y.1=some .free
 once:∀ y∈scope.names,y.2=.free->scope.names.lookup y.1=some .free
def qfd(sc scope:Scope):Bool:=decide (scope.kind=.function)&&scope.names.all λy=>match y.2 with
 | .local=>scope.names.lookup y.1==some .local
 | .free=>(sc.names.lookup y.1==some .cell||sc.names.lookup y.1==some .free)&&scope.names.lookup y.1==some .free
 | .cell=>scope.names.lookup y.1==some .cell
 | _=>true
theorem qdI(h:qfd sc scope=true):CompOk sc scope:=by
 unfold qfd at h;rw[yF] at h;have b:=Yo.mp h.2;show⟨yj h.1,λy a e=>?_,λy a e=>?_,λy a e=>?_,λy a e=>?_⟩
 .have:=b y a;rw[e] at this;show yM.mp this
 .have:=b y a;rw[e] at this;show yM.mp this
 .have:=b y a;rw[e,yF,kC] at this;show this.1.imp yM.mp yM.mp
 .have:=b y a;rw[e,yF] at this;show yM.mp this.2
def qhe(nl:Nat)(ixs:LQ)(N XN:LN)(names:List (Str×NameKind)):Bool:=(List.range ixs.length).all λk=>match ixs[k]?,N[nl+k]? with
 | some j,some x=>XN[j]?==some x&&names.any λy=>y.1==x&&y.2==.free
 | _,_=>true
theorem qez{XN:LN}(h:qhe nl ixs N XN names=true)(k j:Nat)(x:Str)(h1:ixs[k]?=some j)(c:N[nl+k]?=some x):XN[j]?=some x/\(x,NameKind.free)∈names:=by
 have d:k<ixs.length:=(yc.mp h1).1;have:=Yo.mp h k (Xd.mpr d);rw[h1,c] at this;simp only[yF] at this;show⟨yM.mp this.1,?_⟩;obtain⟨⟨n,g⟩,f,e⟩:=xB.mp this.2;rw[yF] at e;have a:n=x:=yM.mp e.1;have b:g=.free:=yM.mp e.2;subst a b;show f
def qei(nl:Nat)(ixs:LQ)(σ:St):St:=List.replicate nl none++ixs.map λj=>(σ[j]?).getD none
theorem capS_len(nl:Nat)(ixs:LQ)(σ:St):(qei nl ixs σ).length=nl+ixs.length:=by
 unfold qei;rw[yx,YB,ya]
theorem qdJ{i:Nat}(h:(qei nl ixs σ)[i]?=some (some v)):nl<=i/\∃ j,ixs[i-nl]?=some j/\σ[j]?=some (some v):=by
 unfold qei at h;by_cases a:i<nl
 .rw [yQ (by rw[YB];show a),Xa] at h;split at h<;>cases h
 .rw [yS (by rw[YB];lk),YB,yd] at h;show⟨by lk,?_⟩
  cases e:ixs[i-nl]? with
  | none=>rw[e] at h;cases h
  | some j =>
   rw[e] at h;have h':(σ[j]?).getD none=some v:=yl h
   cases q:σ[j]? with
   | none=>rw[q] at h';cases h'
   | some u =>
    rw[q] at h';show⟨j,rfl,by rw[q];show congrArg some h'⟩
def qfe(env:Env)(y:Str×NameKind):Str×NameKind:=if (y.2==NameKind.free&&env.scope.kind==.function&&env.kindOf y.1==some .cell)=true then(y.1,NameKind.cell) else(y.1,y.2)
theorem relF_fst(env:Env)(y:Str×NameKind):(qfe env y).1=y.1:=by unfold qfe;split<;>rfl
theorem relF_snd(env:Env)(y:Str×NameKind):(qfe env y).2=y.2\/((qfe env y).2=.cell/\y.2=.free):=by
 unfold qfe;split
 .rename_i h
  rw[yF,yF] at h;show .inr ⟨rfl,yM.mp h.1.1⟩
 .show .inl rfl
theorem za:∀{names:List (Str×NameKind)} {x:Str} {k:NameKind},(names.map (qfe env)).lookup x=some k->∃ b,names.lookup x=some b/\(x,b)∈names/\(k=b\/(k=.cell/\b=.free))
 | [],_,_,h=>by cases h
 | (n,k1)::r,x,k,h=>by
  rw[yP,show qfe env (n,k1)=((qfe env (n,k1)).1,(qfe env (n,k1)).2) from rfl,xA,relF_fst] at h;rw[xA]
  cases c:x==n with
  | true =>
   have e:x=n:=yM.mp c;subst e;have a:(x==(x,k1).1)=true:=c;rw[a] at h;have h':=yl h;show⟨k1,rfl,yC,?_⟩;rcases relF_snd env (x,k1) with z | ⟨z1,z2⟩
   .show .inl (h'.symm.trans z)
   .show .inr ⟨h'.symm.trans z1,z2⟩
  | false =>
   have a:(x==(n,k1).1)=false:=c;rw[a] at h;obtain⟨b,d,f,g⟩:=za h;show⟨b,d,yz _ f,g⟩
section
variable{X:Cx}{pins:List (Addr×Obj)}{σ:St}{H:Hp}{s:Shared}
theorem comp_free_of{b:List (Str×Addr)}(h:(compEnvC scope b C X.env).kindOf x=some .cell\/(compEnvC scope b C X.env).kindOf x=some .free):(x,NameKind.cell)∈scope.names\/(x,NameKind.free)∈scope.names:=by
 rcases h with h | h
 .obtain⟨c,_,a,e | ⟨_,e⟩⟩:=za (env:=X.env) (names:=scope.names) h
  .rw [<- e] at a;show .inl a
  .rw [e] at a;show .inr a
 .obtain⟨c,_,a,e | ⟨e,_⟩⟩:=za (env:=X.env) (names:=scope.names) h
  .rw [<- e] at a;show .inr a
  .cases e
theorem Inv.comp{R:Obj}{h1:Heap}{tk:Nat}(I:Inv X pins σ H s)(O:CompOk X.env.scope scope)
  (hN:N.length=nl+ixs.length) (F:∀(k j:Nat) (x:Str),ixs[k]?=some j->N[nl+k]?=some x->X.N[j]?=some x/\(x,NameKind.free)∈scope.names)
  (L:∀ b∈fp,qeh X pins H b) (G:∀ b∈fp,b<s.heap.objs.size) (K:s.heap.objs.size<=C) (U:s.heap.objs.size<=D) (W:D≠C) (ab:h1.Ns C λ_=>none) (k:∀ b o,s.heap.get? b=some o->h1.get? b=some o)
  (ac:h1.get? D=some R) (Z:∀ v,R.data≠.cell v) (A:CellsOk h1 (C+1) (cellsFrom (C+1) scope.names [])):Inv (X.comp N scope C s H fp) [(D,R)] (qei nl ixs σ) H { s with heap:=h1,toks:=tk }:=by
 have cells:∀ x c,(qC X.env scope.names []).lookup x=some c->X.env.cells.lookup x=some c/\(x,NameKind.free)∈scope.names:=λx c h=>by
  rcases zA h with⟨h1,J⟩ | h1
  .obtain⟨E,f⟩:=I.ok.has x (by
    rcases O.free _ h1 rfl with z | z
    .show .inl z
    .show .inr z)
   rw[f] at J;show⟨by rw[f,J];rfl,h1⟩
  .cases h1
 have big:∀ c:Addr,C+1<=c->s.heap.objs.size<=c:=λc h=>yh K (Nat.le_of_succ_le h);have M:∀{P:Prop} {c:Addr},C+1<=c->c<s.heap.objs.size->P:=λh g=>absurd (yi g (big _ h)) (yU _)
 have all:∀ x c,(cellsFrom (C+1) scope.names (qC X.env scope.names [])).lookup x=some c->((x,c)∈cellsFrom (C+1) scope.names []/\C+1<=c/\h1.IsCell c none)\/(X.env.cells.lookup x=some c/\c<s.heap.objs.size):=λx c h=>by
  rcases qbD h with z | z
  .show .inl ⟨z,(A.empty _ _ z).2,(A.empty _ _ z).1⟩
  .obtain⟨_,q⟩:=I.cell x c (cells x c z).1;show .inr ⟨(cells x c z).1,q.lt⟩
 show⟨⟨I.ok.mod,O.kind,I.ok.glob,I.ok.blt,K,λx y c h1 J=>?inj,λx hx=>cells_some ((comp_free_of hx).imp id zB),λx c z h=>?cab,I.ok.hd,I.ok.frames,.inl rfl,
   λb hb=>⟨yG (yi (G b hb) K),λx c e=>?exf⟩,I.bs,yh I.ok.bsz I.sz,λb o e hb=>?_,λb hb z=>?_,I.stack,I.stkFree⟩,
  rfl,I.bare,Un.kept k,⟨_,ab,λi x v e1 e2 e3=>?_⟩,λx c e=>?_,I.hok.fresh K,λx c e=>?fre,λp hp=>?_,I.hok.kept k,?_⟩
 case inj =>
  rcases all x c h1 with⟨l,a,_⟩ | ⟨l,a⟩<;>rcases all y c J with⟨S,T,_⟩ | ⟨S,T⟩
  .show name_of_addr A.apart l S
  .show M a T
  .show M T a
  .show I.ok.inj x y c l S
 case cab =>
  rcases all x c h with⟨_,a,_⟩ | ⟨l,a⟩
  .show big _ a
  .exfalso;obtain⟨d,B⟩:=qaM (n:=C+1) (mem_of_lookup (yM.mp z));have h:(cellsFrom (C+1) scope.names (qC X.env scope.names [])).lookup x=some c:=h;rw[jh,xj,B] at h;cases h;show M (A.empty _ _ (mem_of_lookup B)).2 a
 case exf =>
  rcases all x c e with⟨_,a,_⟩ | ⟨l,_⟩
  .show λz=>M a (by rw[z];show G b hb)
  .show(L b hb).2.2.2.2.1 x c l
 case fre =>
  rcases all x c e with⟨_,a,_⟩ | ⟨l,_⟩
  .show I.hok.fresh (big _ a)
  .show I.freeC x c l
 .rcases(L b hb).2.2.2.1 with z | z
  .show I.ok.noex b o e z
  .have:=(I.ok.bs b o e).1;show absurd (yi (yy this) z) (yU _)
 .rcases yt.mp (I.stkSub b z) with e | e
  .show(L b hb).2.1 e
  .show(L b hb).2.2.1 e
 .obtain⟨hi,j,hj,hv⟩:=qdJ e2;obtain⟨hx,r⟩:=F (i-nl) j x hj (by rw[Nat.add_sub_cancel' hi];show e1);obtain⟨m,hn,hl⟩:=I.loc;have A:=O.free _ r rfl
  obtain⟨u,ru,lk⟩:=hl j x v hx hv (by
   rcases A with z | z
   .show .inr (.inl z)
   .show .inr (.inr z))
  show⟨u,ru,?_⟩;rcases lk with⟨aa,_⟩ | ⟨_,c,hc,w⟩
  .have t:X.env.scope.names.lookup x=some .local:=aa;rcases A with z | z<;>· rw[z] at t;cases t
  .obtain⟨E,f⟩:=zB (env:=X.env) (acc:=[]) r
   have e:E=c:=by
    have:=(cells x E f).1;rw[hc] at this;show(yl this).symm
   subst e
   have Y:(cellsFrom (C+1) scope.names (qC X.env scope.names [])).lookup x=some E:=by
    rw[jh,xj]
    cases q:(cellsFrom (C+1) scope.names []).lookup x with
    | none=>show f
    | some d=>have:=O.cel _ (qbC (mem_of_lookup q)) rfl;rw[O.once _ r rfl] at this;cases this
   show .inr ⟨?_,E,Y,?_⟩
   .rcases e3 with z | z | z
    .obtain⟨k0,z3,_,e | ⟨e,_⟩⟩:=za (env:=X.env) (names:=scope.names) z
     .rw [O.once _ r rfl] at z3;cases z3;cases e
     .cases e
    .show .inl z
    .show .inr z
   .obtain⟨o,ho,B⟩:=w;show⟨o,k _ _ ho,B⟩
 .rcases all x c e with⟨_,_,a3⟩ | ⟨l,_⟩
  .show⟨none,a3⟩
  .obtain⟨v,o,ho,B⟩:=I.cell x c l;show⟨v,o,k _ _ ho,B⟩
 .have e:p=(D,R):=by simpa using hp
  subst e;show⟨ac,I.hok.fresh U,W,λz=>?_,Z⟩;rcases yt.mp (I.stkSub D z) with e | e
  .show absurd (show X.env.locals<D from yi I.lt U) (by rw[e];show yU _)
  .show I.nofs U e
 .show(qei nl ixs σ).length=N.length;rw[capS_len,hN]
theorem Inv.compBack{s':Shared}{i:St}(I:Inv X pins σ H s)(g:∀ b∈fp,qeh X pins H b)(t:s.heap.objs.size<=C)(j:s.heap.objs.size<=D)
  (J:Inv (X.comp N scope C s H fp) [(D,{ cls:=.type "list",data:=.seq its.toArray n })] i H' s') (hv:Vals ys its) (m:ys.length<=sizeLine):Inv X pins σ (upd H' D (.lst ys)) s':=by
 obtain⟨r,f,p,_,_⟩:=J.pin (D,{ cls:=.type "list",data:=.seq its.toArray n }) (yE _ (yA.mpr rfl));have h:∀ b o,s.heap.get? b=some o->b≠D:=λb o e=>yG (yi (yy e) j);have a:=J.base;show I.call' (ch:=fp) J.os ⟨a.keep,a.slot,λb o e n l=>?_,a.there,λb xs e=>?_,λb o u e=>?_,λb ps e=>?_⟩ (λb u e=>?_) J.bare λb hb=>⟨(g b hb).2.2.2.1,(g b hb).2.1,(g b hb).2.2.2.2.1,(g b hb).2.2.2.2.2⟩
 .rw [qh (h b o e)];show a.free b o e n l
 .have q:=a.tups b xs e;rw[qh (qq q f)];show q
 .have q:=a.frzs b o u e;rw[qh (qq q f)];show q
 .obtain⟨d,q⟩:=a.tbls b ps e;show⟨d,by rw[qh (qq q f)];show q⟩
 .by_cases hb:b=D
  .subst hb;rw[qc] at e;cases e;show⟨m,its,n,hv,r⟩
  .rw [qh hb] at e;show(J.hok b u e).stay (λc v _ q=>q) (λc q=>by rw[qh (qq q f)];show q) λc xs q=>by rw[qh (qq q f)];show q
end
def qhx:TT:=λ_ H Q=>Q true H
def qf0(wi:TI)(g:TG)(tc:TT)(te:TE)(nl:Nat)(ixs:LQ):TE:=fun σ H Q=>wi σ H λJ e =>
 ∃ W:Nat->Nat->List V->Hp->Prop,(∃ m,W 0 m [] e)/\∀ i m ys H,W i m ys H ->
  (J.stop i H/\ys.length<=sizeLine/\∀ p,H p=none->Q (.ref p) (upd H p (.lst ys))) \/
  (J.go i H/\∃ M:List V->Hp->Prop,(∀ ys' H',M ys' H'->∃ d,d<m/\W (i+1) d ys' H')/\∀ x H',J.yld i H x H'->g x (qei nl ixs σ) H' λa f=>tc a f λb c =>
   if b=true then te a c λv h=>ys.length<sizeLine/\M (ys++[v]) h else M ys c)
def qff(nl:Nat)(g:TG):Prop:=∀ x σ H Q,g x σ H Q->g x σ H λa b=>Q a b/\a.length=σ.length/\∀ i,nl<=i->a[i]?=σ[i]?
theorem zn{i:Nat}(h:i<nl:=by decide):qff nl (qdb i):=λx σ H Q q=>⟨q,List.length_set ..,λj a=>xM (by lk)⟩
def qgz(X:Cx)(ifs:List Expr)(tc:TT):Prop:=
 ∀(pins:List (Addr×Obj)) (s:Shared) (σ:St) (H:Hp) (Q:Bool->Hp->Prop),Inv X pins σ H s->tc σ H Q ->
  wpAny (model X.prog X.w) X.A (forIn ifs true λc r=>if r=true then do let ok <- isTrue c X.env (eval c X.env);pure (ForInStep.yield ok) else pure (ForInStep.yield r)) (TP X pins σ Q) X.xe s
theorem qaN:qgz X [] qhx:=λpins s σ H Q I h=>wpAny_tests_nil ⟨H,I,h⟩
theorem qaO{c:Expr}(h:PT X c tc):qgz X [c] tc:=λpins s σ H Q I q=>wpAny_tests_one (h pins s σ H Q I q)
section
variable{X:Cx}{pins:List (Addr×Obj)}{σ:St}{H:Hp}{s:Shared}
theorem qb0{tn:Nat->Heap->Prop}{J:It}{Q:V->Hp->Prop}
  {RR:Value->Addr->Result->Shared->Prop} (I:Inv X pins σ H s) (hc:X.calm=true) (O:CompOk X.env.scope scope)
  (hN:N.length=nl+ixs.length) (ah:∀(k j:Nat) (x:Str),ixs[k]?=some j->N[nl+k]?=some x->X.N[j]?=some x/\(x,NameKind.free)∈scope.names)
  (T:Turn X.prog X.w X.K tg J fp it tn) (st:tn 0 s.heap) (hf:∀ b∈fp,qeh X pins H b)
  (hg:∀ C s0 H0 ex,PG (X.comp N scope C s0 H0 ex) tg g) (gk:qff nl g) (hi:∀ C s0 H0 ex,qgz (X.comp N scope C s0 H0 ex) ifs tc) (he:∀ C s0 H0 ex,PE (X.comp N scope C s0 H0 ex) elt te)
  (h:∃ W:Nat->Nat->List V->Hp->Prop,(∃ m,W 0 m [] H)/\∀ i m ys H,W i m ys H ->
   (J.stop i H/\ys.length<=sizeLine/\∀ p,H p=none->Q (.ref p) (upd H p (.lst ys))) \/
   (J.go i H/\∃ M:List V->Hp->Prop,(∀ ys' H',M ys' H'->∃ m',m'<m/\W (i+1) m' ys' H')/\∀ x H',J.yld i H x H'->g x (qei nl ixs σ) H' λao a=>tc ao a λb H3 =>
    if b=true then te ao H3 λv H4=>ys.length<sizeLine/\M (ys++[v]) H4 else M ys H3))
  (av:∀(D C:Addr) (s':Shared) (H':Hp) (R:St) (ys:List V) (its:List Value) (n:Nat),s.heap.objs.size<=C->s.heap.objs.size<=D->Inv (X.comp N scope C s H fp) [(D,{ cls:=.type "list",data:=.seq its.toArray n })] R H' s'->Vals ys its->ys.length<=sizeLine ->
   (∀ p,H' p=none->Q (.ref p) (upd H' p (.lst ys)))->RR (.ref D) C (.ok .next) s') :
  wpAny (model X.prog X.w) X.A (newList []) (λacc s3=>wpAny (model X.prog X.w) X.A (newFunctionEnv scope X.env.globals (qC X.env scope.names []) [] X.env.qual none .none (some X.env)) (λU s4 =>
   codeAny (model X.prog X.w) X.A (.compStart (.ListComp elt [⟨tg,iter,ifs,0⟩] scope pos) 0 (.ref it) acc { U with scope:=relabel scope X.env }) (RR acc U.locals) s4) E s3) E s:=by
 obtain⟨W,⟨m0,w0⟩,an⟩:=h;show xr (newEnvK ?_);dsimp only;generalize ab:s.heap.push { cls:=.type "list",dict:=none,data:=.seq ([]:List Value).toArray }=a;have Z:(pushCells (a.push { cls:=.type "dict",data:=.dict #[] }) scope.names).Ns a.objs.size λ_=>none:=(Heap.Ns.new a (.type "dict")).keeps (pushCells_keeps _ _);have F:=cellsFrom_ok scope.names (a.push { cls:=.type "dict",data:=.dict #[] }) (a.objs.size+1) [] ⟨λ_ _ hm=>(nomatch hm),List.Pairwise.nil⟩ (by rw[YQ];show yg _);rw[YQ] at F;have ac:∀ b o,a.get? b=some o->(pushCells (a.push { cls:=.type "dict",data:=.dict #[] }) scope.names).get? b=some o:=λb o e=>pushCells_keeps _ _ b o (yq _ e);generalize pushCells (a.push { cls:=.type "dict",data:=.dict #[] }) scope.names=h1 at Z F ac ⊢;have hC:a.objs.size=s.heap.objs.size+1:=by rw[<- ab,YQ]
 have au:s.heap.objs.size≠a.objs.size:=by rw[hC];show yG (Xv _)
 have Y:s.heap.objs.size<=a.objs.size:=by rw[hC];show xN _
 have f:∀ b,b<s.heap.objs.size->b≠a.objs.size/\b≠s.heap.objs.size:=λb hb=>⟨by rw[hC];show yG (Nat.lt_succ_of_lt hb),yG hb⟩;have old:∀ b o,s.heap.get? b=some o->h1.get? b=some o:=λb o e=>ac b o (ab ▸ yq _ e);have af:h1.get? s.heap.objs.size=some { cls:=.type "list",data:=.seq ([]:List Value).toArray }:=ac _ _ (ab ▸ yI _ rfl)
 have B:∀ b∈fp,b<s.heap.objs.size:=λb hb=>by
  obtain⟨o,ho,_⟩:=T.obj 0 _ st b hb;show yy ho
 have aa:∀ s3:Shared,s3={ s with heap:=h1 } ->
   codeAny (model X.prog X.w) X.A (.compLoop (.ListComp elt [⟨tg,iter,ifs,0⟩] scope pos) 0 (.ref it) (.ref s.heap.objs.size) (compEnvC scope (cellsFrom (a.objs.size+1) scope.names (qC X.env scope.names [])) a.objs.size X.env)) (RR (.ref s.heap.objs.size) a.objs.size) s3:=by
  rintro s3 rfl;have I0:=I.comp (N:=N) (C:=a.objs.size) (D:=s.heap.objs.size) (h1:=h1) (tk:=s.toks) O hN ah hf B Y (yg _) au Z old af (λv z=>by cases z) F
  have t:∀{H':Hp} {R:St} {s':Shared} {pl:List (Addr×Obj)},Inv (X.comp N scope a.objs.size s H fp) pl R H' s'->(∀ p∈pl,p.1=s.heap.objs.size)->(∀ b∈fp,H' b=none)->∀ b∈fp,qeh (X.comp N scope a.objs.size s H fp) pl H' b:=λ{H' R s' pl} J ax hn b hb =>
   ⟨hn b hb,(f b (B b hb)).1,λz=>(by
     rcases yt.mp (I.stkSub b z) with e | e
     .show(hf b hb).2.1 e
     .show(hf b hb).2.2.1 e),.inl hb,J.ok.exf b hb |>.2,λp L z=>by
    have e:=ax p (by simpa using L);rw[e] at z;show(f b (B b hb)).2 z.symm⟩
  show compLoop_own (λk s'=>∃ i H' ys its n,Inv (X.comp N scope a.objs.size s H fp) [(s.heap.objs.size,{ cls:=.type "list",data:=.seq its.toArray n })] (qei nl ixs σ) H' s'/\tn i s'.heap/\(∀ b∈fp,H' b=none)/\Vals ys its/\W i k ys H') ?_ m0
   ⟨0,H,[],[],0,I0,T.keep _ _ _ st λb _ o e=>old b o e,λb hb=>(hf b hb).1,.nil,w0⟩
  rintro k s' ⟨i,H',ys,its,n,J1,al,ae,v1,w1⟩
  have one:∀ p∈[((s.heap.objs.size,{ cls:=.type "list",data:=.seq its.toArray n }):Addr×Obj)],p.1=s.heap.objs.size:=λp L=>by
   have e:p=_:=yA.mp L;rw[e]
  rcases an i k ys H' w1 with⟨am,hz,q⟩ | ⟨go,M,hM,step⟩
  .show thn (T.done (X.comp N scope a.objs.size s H fp) rfl rfl rfl hc i _ s' _ H' _ J1 (t J1 one ae) al am) λr s4 ⟨hr,J4⟩=>?_;subst hr;show av _ _ s4 H' _ ys its n Y (yg _) J4 v1 hz q
  .show thn (T.item (X.comp N scope a.objs.size s H fp) rfl rfl rfl hc i _ s' _ H' _ J1 (t J1 one ae) al go) λr s4 ⟨u,hr,h4⟩=>?_;subst hr;show thn h4 λ_ s5 ⟨x,H5,J5,r5,y5,ad,aq⟩=>?_;have ap:=J5.pinned (t J5 one aq) (T.obj _ _ ad);show thn (hg _ _ _ _ _ s5 _ H5 x u _ ap r5 (gk _ _ _ _ (step x H5 y5))) λ_ s6 ⟨S,H6,J6,q6,l6,k6⟩=>?_;show thn (hi _ _ _ _ _ s6 S H6 _ J6 q6) λok s7 ⟨H7,J7,q7⟩=>?_;have l:∀{P:Shared} {H8:Hp} {ys':List V} {k':Nat},Inv (X.comp N scope a.objs.size s H fp) ([((s.heap.objs.size,{ cls:=.type "list",data:=.seq its.toArray n }):Addr×Obj)]++qcz fp s5.heap) S H8 P ->
     (∀ b o,b≠s.heap.objs.size->P.heap.get? b=some o->P.heap.get? b=some o)->tn (i+1) P.heap/\∀ b∈fp,H8 b=none:=λ{P H8 ys' k'} J8 _=>by
    show⟨T.keep _ _ _ ad λb hb o e=>(J8.pin (b,o) (yE _ (yE _ (qaj hb e)))).1,λb hb=>?_⟩;obtain⟨o,e,d⟩:=T.obj _ _ ad b hb;show(J8.pin (b,o) (yE _ (yE _ (qaj hb e)))).2.1
   have wk:∀(j:Nat) v,(qei nl ixs σ)[j]?=some (some v)->S[j]?=some (some v):=λj v e=>by
    obtain⟨hj,_⟩:=qdJ e;rw[k6 j hj];show e
   cases ok with
   | false =>
    rw[yw yV] at q7 ⊢;obtain⟨m',hm,w7⟩:=hM _ _ q7;obtain⟨az,ar⟩:=l (ys':=ys) (k':=0) J7 (λ_ _ _ e=>e);show⟨m',hm,i+1,H7,ys,its,n,J7.unpinned.weak l6.symm wk,az,ar,v1,w7⟩
   | true =>
    rw[yB rfl] at q7 ⊢;show thn (he _ _ _ _ _ s7 S H7 _ J7 q7) λy P ⟨v,H8,J8,r8,bb,mq⟩=>?_;obtain⟨m',hm,w8⟩:=hM _ _ mq;obtain⟨ba,as⟩:=l (ys':=ys) (k':=0) J8 (λ_ _ _ e=>e);have J9:=J8.unpinned;obtain⟨pD,nD,ak,ay,_⟩:=J9.pin (s.heap.objs.size,{ cls:=.type "list",data:=.seq its.toArray n }) (yE _ (yA.mpr rfl));show wpAny_list_append_plain (hsz:=by rw[yr,<- v1.length];lk) ⟨n,pD⟩ λh9 G aj=>?_;obtain⟨n9,G⟩:=G;have e9:(its.toArray.push y)=(its++[y]).toArray:=by simp
    rw[e9] at G
    have Ja:Inv (X.comp N scope a.objs.size s H fp) [] (qei nl ixs σ) H8 { P with heap:=h9,toks:=P.toks }:=
     ((J9.pins_of (pins':=[]) λp L=>absurd L (by simp)).turned (it:=s.heap.objs.size) (h':=h9) (t':=P.toks) (λb o hb e=>(aj.2 b hb).trans e) nD ak (.inr (yg _))
      (λx c e z=>by
       rcases qbD e with w | e
       .have:=(F.empty _ _ w).2;rw[z,hC] at this;show absurd (yh (xN _) this) (Nat.not_succ_le_self _)
       have:=zA e;rcases this with⟨aw,hcc⟩ | hcc
       .obtain⟨c',ag⟩:=I.ok.has x (by
         rcases O.free _ aw rfl with q | q
         .show .inl q
         .show .inr q)
        rw[ag] at hcc;have ai:c=c':=hcc;obtain⟨_,q⟩:=I.cell x c' ag;rw[<- ai,z] at q;show absurd q.lt (yU _)
       .cases hcc) (λp L=>absurd L (by simp))).weak l6.symm wk
    show⟨m',hm,i+1,H8,ys++[v],its++[y],n9,Ja.pins_of λp L=>?_,?_,as,v1.append (.cons r8 .nil),w8⟩
    .have e:p=_:=yA.mp L;subst e;show⟨G,nD,ak,ay,λv z=>by cases z⟩
    .show T.keep _ _ _ ba λb hb o e=>(aj.2 b (f b (B b hb)).2).trans e
 show codeAny_compStart_list (aa _ rfl) (T.self _ 0 _ _ _ (T.keep _ _ _ st λb _ o e=>old b o e) (aa _ rfl))
end
section
variable{X:Cx}{tg elt iter:Expr}{ifs:List Expr}{scope:Scope}{pos:Pos}{N:LN}{nl:Nat}{ixs:LQ}{wi:TI}{g:TG}{tc:TT}{te:TE}
theorem zC{XN:LN}(N:LN)(nl:Nat)(ixs:LQ)(G:X.env.scope=sc)(y:X.N=XN)(hc:X.calm=true)(P:qfd sc scope=true)(W:N.length=nl+ixs.length)(d:qhe nl ixs N XN scope.names=true)
  (hi:PI X tg iter wi) (hg:∀ C t i j,PG (X.comp N scope C t i j) tg g) (R:qff nl g) (ht:∀ C t i j,qgz (X.comp N scope C t i j) ifs tc) (Z:∀ C t i j,PE (X.comp N scope C t i j) elt te)
  (hs:∀ x,foldedSetIterable iter X.env x=pure x:=by intro _;rfl):PE X (.ListComp elt [⟨tg,iter,ifs,0⟩] scope pos) (qf0 wi g tc te nl ixs):=by
 intro pins s σ H Q I h;subst G y;have O:=qdI P;have r:=qez d;rw[eval_ListComp]
 have E:=qaL (scope:=scope) (env:=X.env) λn F=>I.ok.has n (by
  rcases O.free _ F rfl with z | z
  .show .inl z
  .show .inr z)
 show wpAny_comprehension_free (use:=none) rfl hs E O.kind O.loc (thn (hi pins s σ H _ I h) λv s1 h1=>thn h1 λaa s2 S=>?_);obtain⟨it,fp,tn,J,H2,e,f,T,L,M,Y⟩:=S;subst e;show qb0 (Q:=Q) (RR:=λacc C=>compPost (model X.prog X.w) X.A X.xe none (EP X pins σ Q) acc C) f hc O W r T L M hg R ht Z Y ?_;intro D C s' H' ab ys its n l U u hv hz q;obtain⟨m,F,_⟩:=id u.loc;have B:=f.compBack M l U u hv hz;obtain⟨_,nD,K,_,_⟩:=u.pin (D,{ cls:=.type "list",data:=.seq its.toArray n }) (yE _ (yA.mpr rfl));show⟨m,F,λh' sb=>⟨.ref D,_,?_,rfl,q D nD⟩⟩;show B.turned (it:=C) (h':=h') (t':=s'.toks) (λb o hb e=>(sb.2 b hb).trans e) ((qh (H:=H') (a:=D) (b:=C) (o:=.lst ys) (YW K)).trans u.free) (Xe (yi f.lt l)) (.inr (yh f.sz l)) (λx c e z=>?_) (λp hp z=>?_)
 .obtain⟨_,q⟩:=f.cell x c e;show absurd (yi q.lt (by rw[z];show l)) (yU _)
 .show absurd (yi (yy (f.pin p hp).1) (by rw[z];show l)) (yU _)
theorem ps_setC{i:Nat}{y:Str}{r f:Pos}{XN:LN}(N:LN)(nl:Nat)(ixs:LQ)(Y:X.env.scope=sc)(E:X.N=XN)(hc:X.calm=true)(O':qfd sc scope=true)(hN:N.length=nl+ixs.length)(l:qhe nl ixs N XN scope.names=true)
  (P:X.N.Nodup) (S:X.N[i]?=some y) (hy:X.env.scope.names.lookup y=some .local)
  (hi:PI X tg iter wi) (hg:∀ C G t u,PG (X.comp N scope C G t u) tg g) (gk:qff nl g) (ht:∀ C G t u,qgz (X.comp N scope C G t u) ifs tc) (he:∀ C G t u,PE (X.comp N scope C G t u) elt te)
  (Z:swapsWith (.ListComp elt [⟨tg,iter,ifs,0⟩] scope pos) (some (.Name y r)) f.line X.env=pure true:=by rfl)
  (hs:∀ x,foldedSetIterable iter X.env x=pure x:=by intro _;rfl):PS X (.Assign [.Name y r] (.ListComp elt [⟨tg,iter,ifs,0⟩] scope pos) f) (qfX (qf0 wi g tc te nl ixs) (qdb i)):=by
 intro pins s σ H L I h;subst Y E;have O:=qdI O';have F:=qez l
 have R:=qaL (scope:=scope) (env:=X.env) λn U=>I.ok.has n (by
  rcases O.free _ U rfl with z | z
  .show .inl z
  .show .inr z)
 rw[exec_Assign_Name_used _ _ _ _ Z];show yp (xG (yp ?_));show wpAny _ X.A (do let _ <- comprehension (.ListComp elt [⟨tg,iter,ifs,0⟩] scope pos) scope X.env _ (newList []) false (eval iter X.env) (some (assign (.Name y r) X.env))) _ _ s;show yp (Yd (wpAny_comprehension_free (use:=some (assign (.Name y r) X.env)) (Q:=λ_ s'=>SP X pins L .next s') rfl hs R O.kind O.loc
  (thn (hi pins s σ H _ I h) λv s1 h1=>thn h1 λad s2 h2=>?_)) (λ_ s' hq=>yu (yu hq)) λ_ _ e=>e)
 obtain⟨it,fp,tn,J,H2,e,d,T,ac,f2,hW⟩:=h2;subst e;show qb0 (Q:=λv H'=>qdb i v σ H' L.nx) (RR:=λacc C=>compPost (model X.prog X.w) X.A X.xe (some (assign (.Name y r) X.env)) (λ_ s'=>SP X pins L .next s') acc C) d hc O hN F T ac f2 hg gk ht he hW ?_;intro D C s' H' ae ys its n j hD K hv hz q;obtain⟨m,U,_⟩:=id K.loc;have B:=d.compBack f2 j hD K hv hz;obtain⟨_,nD,aa,_,_⟩:=K.pin (D,{ cls:=.type "list",data:=.seq its.toArray n }) (yE _ (yA.mpr rfl));show wpAny _ X.A (assign (.Name y r) X.env (.ref D)) _ _ _;show wpAny_assign_Name (qcu (i:=i) (x:=y) (v:=.ref D) B P S (.inl hy) rfl (λab B' W=>?_) (.inr hy));obtain⟨a,sa,ha⟩:=W
 have M:C≠a:=by
  rintro rfl;rcases ha with z | z
  .show absurd (show X.env.locals<C from yi d.lt j) (by rw[z];show yU _)
  .obtain⟨_,q⟩:=d.cell y C z;show absurd (yi q.lt j) (yU _)
 show⟨m,U.sameBut sa M,λh' sb=>⟨_,_,?_,q D nD⟩⟩;show B'.turned (it:=C) (h':=h') (t':=ab.toks) (λb o hb e=>(sb.2 b hb).trans e) ((qh (H:=H') (a:=D) (b:=C) (o:=.lst ys) (YW aa)).trans K.free) (Xe (yi d.lt j)) (.inr (yh d.sz j)) (λx c e z=>?_) (λp hp z=>?_)
 .obtain⟨_,q⟩:=d.cell x c e;show absurd (yi q.lt (by rw[z];show j)) (yU _)
 .show absurd (yi (yy (d.pin p hp).1) (by rw[z];show j)) (yU _)
end
def Its(x:Str):It:=⟨λi _=>i<x.cps.size,λi H v H'=>H'=H/\∃ c,x.cps[i]?=some c/\v=.str ⟨#[c]⟩,λi _=>i=x.cps.size⟩
theorem qdK{K:yf}{t:Tok}(W:∀ A:Around,A.handled=none->Walks P w A it [it] [it] x.cps.size (SignAt x) λi h=>h.IsStrIter it T x t i)
  (J:∀(A:Around) (i:Nat) (s:Shared) (Q:Value->Shared->Prop) (E:Value->Shared->Prop),s.heap.IsStrIter it T x t i->Q (.ref it) s->wpAny (model P w) A (pyIter (.ref it)) Q E s)
  (B:∀ v,letOwnedTupleGo tg (.ref it) v=pure ()):Turn P w K tg (Its x) [it] it (λi h=>h.IsStrIter it T x t i) where
 mem:=by simp
 obj:=λi h st b hb=>by
  have e:b=it:=by simpa using hb
  subst e;obtain⟨o,e,c,d⟩:=st;show⟨o,e,λv z=>by rw[d] at z;cases z⟩
 keep:=λi h h' st k=>by
  obtain⟨o,e,r⟩:=st;show⟨o,k it (by simp) o e,r⟩
 item:=by
  intro X p hw n hc i pins s σ H E I a st y;subst p hw n;obtain⟨f,g,G,j,l,m⟩:=a it (by simp);show(W X.A (I.ok.hd hc)).item i s _ _ y st λv h' tk hv D C=>?_;obtain⟨c,u,q,rfl⟩:=hv;have F:Inv X pins σ H { s with heap:=h',toks:=tk }:=I.turned (λb o hb e=>C b o (by simpa using hb) e) f g j l m;show⟨_,rfl,YA (B _) ⟨.str ⟨#[c]⟩,H,F,⟨u,rfl⟩,⟨rfl,c,q,rfl⟩,D,λb hb=>(a b hb).1⟩⟩
 done:=by
  intro X p hw n hc i pins s σ H E I a st y;subst p hw n;obtain⟨f,g,G,j,l,m⟩:=a it (by simp);have e:i=x.cps.size:=y;subst e;show(W X.A (I.ok.hd hc)).done s _ _ st λh' tk C=>⟨rfl,I.turned (λb o hb e=>C b o (by simpa using hb) e) f g j l m⟩
 self:=J
section
variable{X:Cx}{tg:Expr}
end
section
variable{K:yf}{a:Addr}{xs:List V}{g:TG}{tc:TT}{te:TE}{σ':St}{H1:Hp}{Q:V->Hp->Prop}
def qfg(J:It)(g:TG)(tc:TT)(te:TE)(σ':St)(H1:Hp)(Q:V->Hp->Prop):Prop:=
 ∃ W:Nat->Nat->List V->Hp->Prop,(∃ m,W 0 m [] H1)/\∀ i m ys H,W i m ys H ->
   (J.stop i H/\ys.length<=sizeLine/\∀ p,H p=none->Q (.ref p) (upd H p (.lst ys))) \/
   (J.go i H/\∃ M:List V->Hp->Prop,(∀ ys' H',M ys' H'->∃ d,d<m/\W (i+1) d ys' H')/\∀ x H',J.yld i H x H'->g x σ' H' λa e=>tc a e λb c =>
    if b=true then te a c λv f=>ys.length<sizeLine/\M (ys++[v]) f else M ys c)
theorem zt(c:Nat->List V->Hp->Prop)(n:c 0 [] H1)(hl:∀ i ys H,i<=xs.length->c i ys H->SqL K H a xs)
  (s:∀ i x ys H,xs[i]?=some x->c i ys H->g x σ' H λf j=>tc f j λb h=>if b=true then te f h λv l=>ys.length<sizeLine/\c (i+1) (ys++[v]) l else c (i+1) ys h)
  (o:∀ ys H,c xs.length ys H->ys.length<=sizeLine/\∀ p,H p=none->Q (.ref p) (upd H p (.lst ys))):qfg (Itl K a) g tc te σ' H1 Q:=by
 show⟨λi m ys H=>m=xs.length-i/\i<=xs.length/\c i ys H,⟨xs.length,by simp,YX _,n⟩,?_⟩;rintro i m ys H ⟨rfl,r,p⟩;have q:=hl i ys H r p;by_cases d:i<xs.length
 .show .inr ⟨⟨xs,xs[i],q,by simp[d]⟩,c (i+1),λys' H' t=>⟨xs.length-(i+1),by lk,rfl,d,t⟩,λx H' y=>?_⟩;obtain⟨e,y⟩:=y;subst e;show s i x ys _ (y xs q) p
 .have e:i=xs.length:=by lk
  subst e;show .inl ⟨⟨xs,q,yg _⟩,o ys H p⟩
theorem qbb{lo:Int}(a:Nat->List V->Hp->Prop)(l:a 0 [] H1)
  (q:∀ i ys H,i<n->a i ys H->g (.int (lo+i)) σ' H λd h=>tc d h λb f=>if b=true then te d f λv j=>ys.length<sizeLine/\a (i+1) (ys++[v]) j else a (i+1) ys f)
  (o:∀ ys H,a n ys H->ys.length<=sizeLine/\∀ p,H p=none->Q (.ref p) (upd H p (.lst ys))):qfg (Itr lo n) g tc te σ' H1 Q:=by
 show⟨λi m ys H=>m=n-i/\i<=n/\a i ys H,⟨n,by simp,YX _,l⟩,?_⟩;rintro i m ys H ⟨rfl,s,p⟩;by_cases c:i<n
 .show .inr ⟨c,a (i+1),λys' H' r=>⟨n-(i+1),by lk,rfl,c,r⟩,λx H' y=>?_⟩;obtain⟨e,y⟩:=y;subst e y;show q i ys _ c p
 .have e:i=n:=by lk
  subst e;show .inl ⟨yg _,o ys H p⟩
theorem comp_str(a:Nat->List V->Hp->Prop)(n:a 0 [] H1)
  (q:∀ i c ys H,x.cps[i]?=some c->a i ys H->g (.str ⟨#[c]⟩) σ' H λf j=>tc f j λb h=>if b=true then te f h λv l=>ys.length<sizeLine/\a (i+1) (ys++[v]) l else a (i+1) ys h)
  (o:∀ ys H,a x.cps.size ys H->ys.length<=sizeLine/\∀ p,H p=none->Q (.ref p) (upd H p (.lst ys))):qfg (Its x) g tc te σ' H1 Q:=by
 show⟨λi m ys H=>m=x.cps.size-i/\i<=x.cps.size/\a i ys H,⟨x.cps.size,by simp,YX _,n⟩,?_⟩;rintro i m ys H ⟨rfl,s,p⟩;by_cases d:i<x.cps.size
 .show .inr ⟨d,a (i+1),λys' H' r=>⟨x.cps.size-(i+1),by lk,rfl,d,r⟩,λv H' y=>?_⟩;obtain⟨e,c,hc,y⟩:=y;subst e y;show q i c ys _ hc p
 .have e:i=x.cps.size:=by lk
  subst e;show .inl ⟨rfl,o ys H p⟩
end
def qcP:V->Option Value
 | .ty n=>some (.type n)
 | .ref a=>some (.ref a)
 | _=>none
theorem qb1{c:Value}(h:qcP y=some c)(r:RelV y u):u=c:=by
 cases y with
 | ty n=>cases h;show r
 | ref a=>cases h;show r
 | _=>cases h
section
variable{X:Cx}{pins:List (Addr×Obj)}{σ:St}{H:Hp}{s:Shared}
theorem TyOf.kit{x:V}(I:Inv X pins σ H s)(b:RelV x u)(ty:TyOf X.K H x t):∃ P:Heap->Prop,PySem.W.KitX X.K u t P/\P s.heap/\u≠.builtin "__main__.__loader__#opaque":=by
 cases ty with
 | non=>cases (show u=Value.none from b);show⟨_,PySem.W.kitx_none,Yp,(λz=>nomatch z)⟩
 | bl y=>cases (show u=Value.bool y from b);show⟨_,PySem.W.kitx_bool,Yp,(λz=>nomatch z)⟩
 | int i=>obtain⟨t,q⟩:=(show ∃ t,u=Value.int i t from b);cases q;show⟨_,PySem.W.kitx_int,Yp,(λz=>nomatch z)⟩
 | str y=>obtain⟨t,q⟩:=(show ∃ t,u=Value.str y t from b);cases q;show⟨_,PySem.W.kitx_str,Yp,(λz=>nomatch z)⟩
 | flt y=>obtain⟨t,q⟩:=(show ∃ t,u=Value.float y t from b);cases q;show⟨_,PySem.W.kitx_float,Yp,(λz=>nomatch z)⟩
 | @lst a xs ea =>
  cases (show u=Value.ref a from b);obtain⟨_,_,n,_,h1⟩:=(show ObjOk X.prog X.w H s.heap a (.lst xs) from I.hok a _ ea);show⟨_,PySem.W.kitx_list,⟨_,h1,rfl⟩,(λz=>nomatch z)⟩
 | @frz a ob xs ea =>
  cases (show u=Value.ref a from b);obtain⟨_,_,_,n,_,h1⟩:=(show ObjOk X.prog X.w H s.heap a (.frz ob (.lst xs)) from I.hok a _ ea);show⟨_,PySem.W.kitx_list,⟨_,h1,rfl⟩,(λz=>nomatch z)⟩
 | @tup a xs ea =>
  cases (show u=Value.ref a from b);obtain⟨_,_,_,p⟩:=(show ObjOk X.prog X.w H s.heap a (.tup xs) from I.hok a _ ea);obtain⟨o,h1,c,_⟩:=p;show⟨_,PySem.W.kitx_tuple,⟨o,h1,c⟩,(λz=>nomatch z)⟩
 | @dK a kvs ea =>
  cases (show u=Value.ref a from b);obtain⟨_,_,vs,_,p⟩:=(show ObjOk X.prog X.w H s.heap a (.dK kvs) from I.hok a _ ea);obtain⟨o,d,ep,h1,c,_⟩:=p;show⟨_,PySem.W.kitx_dict,⟨o,h1,c.1⟩,(λz=>nomatch z)⟩
 | @dT a kvs ea =>
  cases (show u=Value.ref a from b);obtain⟨_,_,xs,_,o,d,ep,h1,c,_⟩:=(show ObjOk X.prog X.w H s.heap a (.dT kvs) from I.hok a _ ea);show⟨_,PySem.W.kitx_dict,⟨o,h1,c.1⟩,(λz=>nomatch z)⟩
 | @ins a C dx fs ea cl ha hn htk hm =>
  cases (show u=Value.ref a from b);obtain⟨e,O,_⟩:=qba I.hok ea;obtain⟨od,J,_⟩:=O.look;show⟨_,PySem.W.kitx_own (cl.get _) cl.hd ha hn htk hm,J,(λz=>nomatch z)⟩
end
section
variable{X:Cx}
theorem qbE:∀{ys:List V} {a us:List Value},ys.map qcP=a.map some->Vals ys us->us=a
 | [],[],_,_,.nil=>rfl
 | [],_::_,_,h,_=>by cases h
 | y::ys,[],_,h,_=>by cases h
 | y::ys,c::a,_,h,.cons r t=>by
  rw[yP,yP] at h
  injection h with h1 h2
  rw[qb1 h1 r,qbE h2 t]
theorem qdL:∀{bs:List Bool} {us:List Value},Vals (bs.map V.bl) us->us=bs.map Value.bool
 | [],_,.nil=>rfl
 | b::bs,_,.cons r t=>by
  have e:=qdL t;rw[e];cases r;rfl
def qhy(K:yf):List V->Hp->VK->Prop:=λxs H Q=>∃(p:Addr) (bs:List Bool),xs=[.ref p]/\SqL K H p (bs.map V.bl)/\Q (.bl (bs.all id)) H
theorem call_all(hc:X.calm=true):zX X (.builtin "all") (qhy X.K):=by
 intro pins s σ H xs us Q I r h;obtain⟨p,bs,rfl,t,q⟩:=h;obtain⟨u,rfl,x⟩:=qcB r;cases x;obtain⟨its,y,pl,z⟩:=I.list t;have e:=qdL y;subst e;have l:X.A.in1.handled=none:=I.ok.hd hc;show call_all_walk (wpAny_pyIter_list pl.isList ?_)
 have f:p≠s.heap.objs.size:=by
  obtain⟨o,n,_⟩:=pl.isList;show yG (yy n)
 show⟨s.heap.objs.size,_,_,_,_,_,λi=>(bs[i]?).getD false,rfl,Walks.list l s.heap.objs.size p f (bs.map Value.bool).toArray,⟨⟨_,yI _ rfl,rfl,rfl⟩,pl.isList.at λo e=>yq _ e⟩,λi v s Q E hv w=>?_,λh' tk m=>?_⟩
 .have a:(bs.map Value.bool)[i]?=some v:=by simpa using hv
  rw[yd] at a
  cases e:bs[i]? with
  | none=>rw[e] at a;cases a
  | some b =>
   rw[e] at a;cases a;have c:Q ((bs[i]?).getD false) s:=w;rw[e] at c;show yu c
 .have e:((List.range (bs.map Value.bool).toArray.size).all λi=>(bs[i]?).getD false)=bs.all id:=by
   rw[yr,ya]
   have g:∀ bs:List Bool,((List.range bs.length).all λi=>(bs[i]?).getD false)=bs.all id:=by
    intro bs
    induction bs with
    | nil=>rfl
    | cons b r ih =>
     rw[Yb,List.range_succ_eq_map,ko,kB,ko,<- ih];rfl
   show g bs
  rw[e];show⟨.bl _,H,?_,rfl,q⟩;have j:Inv X pins σ H { s with heap:=s.heap.push { cls:=.type "list_iterator",data:=.fields #[.ref p,.int 0 0] } }:=I.kept (t':=s.toks) λb o e=>yq _ e;have d:=I.fpOk (b:=s.heap.objs.size) (yg _) (I.hok.fresh (yg _));show j.turned (it:=s.heap.objs.size) (h':=h') (t':=tk) (λb o hb e=>m b o (by simpa using hb) e) d.1 d.2.1 d.2.2.2.1 d.2.2.2.2.1 d.2.2.2.2.2
theorem op_le_str:OpR X (compareOp .LtE) (λx y H Q=>∃ i j,x=.str i/\y=.str j/\Q (.bl (!decide (j.cps.toList<i.cps.toList))) H):=by
 intro pins s σ H x y v u Q I a b h;obtain⟨i,j,rfl,rfl,q⟩:=h;obtain⟨t,rfl⟩:=a;obtain⟨t',rfl⟩:=b;show PySem.P.le_str (fin_bl I q (by rfl))
def qhf:R2:=λx y H Q=>match x,y with
 | .int i,.int j=>Q (.bl (decide (i<=j))) H
 | .str i,.str j=>Q (.bl (!decide (j.cps.toList<i.cps.toList))) H
 | _,_=>False
theorem qgf:OpR X (compareOp .LtE) qhf:=by
 intro pins s σ H x y v u Q I a b h
 cases x with
 | int i=>cases y with
  | int j=>show op_le pins s σ H _ _ v u Q I a b ⟨i,j,rfl,rfl,h⟩
  | _=>show False.elim h
 | str i=>cases y with
  | str j=>show op_le_str pins s σ H _ _ v u Q I a b ⟨i,j,rfl,rfl,h⟩
  | _=>show False.elim h
 | _=>show False.elim h
def rIsU:R2:=λx y H Q=>match x,y with
 | .bl i,.bl j=>Q (.bl (i==j)) H
 | x,.non=>Q (.bl (decide (x=.non))) H
 | _,_=>False
theorem op_rep_str:OpR X (binaryOp .Mult) (λx y H Q=>∃ z k,x=.str z/\y=.int k/\MulOk z k/\Q (.str (Txt.mul z k)) H):=by
 intro pins s σ H x y v u Q I b c h;obtain⟨z,k,rfl,rfl,a,q⟩:=h;obtain⟨t,rfl⟩:=b;obtain⟨t',rfl⟩:=c;show SB.mul a λt' k'=>⟨.str _,H,I.tok _,⟨_,rfl⟩,q⟩
def qgA:R2:=λx y H Q=>match x,y with
 | .int i,.int j=>CMul i j/\Q (.int (i*j)) H
 | .str z,.int k=>MulOk z k/\Q (.str (Txt.mul z k)) H
 | .ref a,.int k=>rRep (.ref a) (.int k) H Q
 | _,_=>False
theorem qea:OpR X (binaryOp .Mult) qgA:=by
 intro pins s σ H x y v u Q I b c h
 cases y with
 | int j=>cases x with
  | int i=>show op_mul pins s σ H _ _ v u Q I b c ⟨i,j,rfl,rfl,h.1,h.2⟩
  | str i=>show op_rep_str pins s σ H _ _ v u Q I b c ⟨i,j,rfl,rfl,h.1,h.2⟩
  | ref a=>show qfv pins s σ H _ _ v u Q I b c h
  | _=>show False.elim h
 | _=>cases x<;>show False.elim h
def qdh(K:yf):R2:=λx y H Q=>match x,y with
 | .int i,.int j=>Q (.int (i+j)) H
 | .str i,.str j=>i.length+j.length<=sizeLine/\Q (.str (i++j)) H
 | .ref a,.ref b=>rCat (.ref a) (.ref b) H Q\/rCatT K (.ref a) (.ref b) H Q
 | _,_=>False
theorem u_add:OpR X (binaryOp .Add) (qdh X.K):=by
 intro pins s σ H x y v u Q I c d h
 cases x with
 | int i=>cases y with
  | int j=>show op_add pins s σ H _ _ v u Q I c d ⟨i,j,rfl,rfl,h⟩
  | _=>show False.elim h
 | str i=>cases y with
  | str j=>show op_add_str pins s σ H _ _ v u Q I c d ⟨i,j,rfl,rfl,h.1,h.2⟩
  | _=>show False.elim h
 | ref a=>cases y with
  | ref b=>show h.elim (λh=>op_cat pins s σ H _ _ v u Q I c d h) λh=>op_catT pins s σ H _ _ v u Q I c d h
  | _=>show False.elim h
 | _=>show False.elim h
def qcd(K:yf):List V->Hp->VK->Prop:=λxs H Q=>match xs with
 | [.str z]=>z.length<=sizeLine/\Q (.int z.length) H
 | [.ref p]=>(∃ ys,(SqL K H p ys\/SqT K H p ys)/\Q (.int ys.length) H)\/∃ kvs,H p=some (.dK kvs)/\Q (.int kvs.length) H
 | _=>False
theorem call_lenU:zX X (.builtin "len") (qcd X.K):=by
 intro pins s σ H xs us Q I r h
 match xs,h with
 | [.str z],h=>show call_len_str pins s σ H _ us Q I r ⟨z,rfl,h.1,h.2⟩
 | [.ref p],.inl ⟨ys,h,q⟩=>show call_len_seq pins s σ H _ us Q I r ⟨p,ys,rfl,h,q⟩
 | [.ref p],.inr ⟨kvs,h,q⟩=>show call_lenD pins s σ H _ us Q I r ⟨p,kvs,rfl,h,q⟩
theorem sl_str:SlR X (λx lo c H Q=>∃ z,x=.str z/\z.length<=sizeLine/\Q (.str (Txt.slice z lo c)) H):=by
 intro pins s σ H x v g m lo c f Q I e a pl d h;obtain⟨z,rfl,b,q⟩:=h;obtain⟨t,rfl⟩:=e;show⟨"str",_,F.slot_str_getitem.lookup,xY _ _ _,?_⟩
 cases pl with
 | none =>
  cases d with
  | none=>show xC (l:=none) (u:=none) (st:=none) a rfl (XR ⟨yh (XZ z _ _) b,λt' k=>⟨.str _,H,I.tok _,⟨_,rfl⟩,q⟩⟩)
  | int j uj=>show xC (l:=none) (u:=some (j,uj)) (st:=none) a rfl (XR ⟨yh (XZ z _ _) b,λt' k=>⟨.str _,H,I.tok _,⟨_,rfl⟩,q⟩⟩)
 | int i ui =>
  cases d with
  | none=>show xC (l:=some (i,ui)) (u:=none) (st:=none) a rfl (XR ⟨yh (XZ z _ _) b,λt' k=>⟨.str _,H,I.tok _,⟨_,rfl⟩,q⟩⟩)
  | int j uj=>show xC (l:=some (i,ui)) (u:=some (j,uj)) (st:=none) a rfl (XR ⟨yh (XZ z _ _) b,λt' k=>⟨.str _,H,I.tok _,⟨_,rfl⟩,q⟩⟩)
def qg3(K:yf):V->Option Int->Option Int->Hp->VK->Prop:=λx lo b H Q=>match x with
 | .str z=>z.length<=sizeLine/\Q (.str (Txt.slice z lo b)) H
 | .ref a=>rSlL K (.ref a) lo b H Q\/rSlT K (.ref a) lo b H Q
 | _=>False
theorem u_sl:SlR X (qg3 X.K):=by
 intro pins s σ H x v g i lo b f Q I e c pl d h
 cases x with
 | str z=>show sl_str pins s σ H _ v g i lo b f Q I e c pl d ⟨z,rfl,h.1,h.2⟩
 | ref a=>show h.elim (λh=>sl_list pins s σ H _ v g i lo b f Q I e c pl d h) λh=>sl_tup pins s σ H _ v g i lo b f Q I e c pl d h
 | _=>show False.elim h
def qhg(K:yf)(te:TE):TI:=fun σ H R=>te σ H λv b=>match v with
 | .str x=>R (Its x) b
 | .ref a=>((∃ xs,SqL K b a xs)/\R (Itl K a) b)\/((∃ xs,SqT K b a xs)/\R (Itt K a) b)
 | _=>False
theorem pi_any{e:Expr}(u:PE X e te)(g:∀ it v,letOwnedTupleGo tg it v=pure ():=by intro _ _;rfl):PI X tg e (qhg X.K te):=by
 intro pins s σ H R I h;show thn (u pins s σ H _ I h) λv c ⟨y,f,d,r,j⟩=>?_
 cases y with
 | str x =>
  obtain⟨t,rfl⟩:=r
  have fp:∀ b∈[c.heap.objs.size],qeh X pins f b:=λb hb=>by
   have e:b=c.heap.objs.size:=by simpa using hb
   subst e;show d.fpOk (yg _) (d.hok.fresh (yg _))
  cases n:x.cps.all (· < 128)
  .show wpAny_pyIter_wide n ⟨c.heap.objs.size,[c.heap.objs.size],_,_,f,rfl,d.kept (t':=c.toks) λb o e=>yq _ e,
    qdK (T:="str_iterator") (λA l=>Walks.strWide l _ x t) (λA i s Q E st h=>wpAny_pyIter_striter_wide st h) (g _),⟨_,yI _ rfl,rfl,rfl⟩,fp,j⟩
  .show wpAny_pyIter_ascii n ⟨c.heap.objs.size,[c.heap.objs.size],_,_,f,rfl,d.kept (t':=c.toks) λb o e=>yq _ e,
    qdK (T:="str_ascii_iterator") (λA l=>Walks.strAscii l _ x t) (λA i s Q E st h=>wpAny_pyIter_striter_ascii st h) (g _),⟨_,yI _ rfl,rfl,rfl⟩,fp,j⟩
 | ref a =>
  cases r
  have fp:∀ b∈[c.heap.objs.size],qeh X pins f b:=λb hb=>by
   have e:b=c.heap.objs.size:=by simpa using hb
   subst e;show d.fpOk (yg _) (d.hok.fresh (yg _))
  rcases j with⟨⟨xs,m⟩,q⟩ | ⟨⟨xs,m⟩,q⟩
  .obtain⟨its,z,p,w⟩:=d.list m;show wpAny_pyIter_list p.isList ⟨c.heap.objs.size,[c.heap.objs.size],_,_,f,rfl,d.kept (t':=c.toks) λb o e=>yq _ e,turn_list a _,⟨_,yI _ rfl,rfl,rfl⟩,fp,q⟩
  .obtain⟨its,z,p,w⟩:=d.tuple m;show wpAny_pyIter_tuple (show c.heap.IsTuple a its.toArray from p) ⟨c.heap.objs.size,[c.heap.objs.size],_,_,f,rfl,d.kept (t':=c.toks) λb o e=>yq _ e,turn_tuple a _,⟨_,yI _ rfl,rfl,rfl⟩,fp,q⟩
 | _=>show False.elim j
end
section
variable{D:Ends}{σ:St}{H:Hp}{Q:VK}{QT:Bool->Hp->Prop}{QA:List V->Hp->Prop}{t u:TS}{te ta tb tc:TE}{c c':TT}{tr tas:TA}{r r':R2}{K:yf}
theorem vSeq(h:t { D with nx:=u D } σ H):qg7 t u D σ H:=h
theorem vAsg{i:Nat}(h:te σ H λx a=>D.nx (σ.set i (some x)) a):qfX te (qdb i) D σ H:=h
theorem vAsgS{a ti:TE}{s:qgo}(h:te σ H λx b=>a σ b λo c=>ti σ c λi d=>s o i x d λe=>D.nx σ e):qfX te (qhv a ti s) D σ H:=h
theorem qhz(h:c σ H λb a=>if b=true then t D σ a else u D σ a):qgn c t u D σ H:=h
theorem vRet(h:te σ H D.rt):qg8 te D σ H:=h
theorem vRetN(h:D.rt .non H):tRetN D σ H:=h
theorem vDrop(h:te σ H λ_ a=>D.nx σ a):qgm te D σ H:=h
theorem qgB(h:D.nx σ H):qfW D σ H:=h
theorem vC(h:Q v H):tC v σ H Q:=h
theorem vVar{i:Nat}(e:σ[i]?=some (some v))(h:Q v H):qfc i σ H Q:=⟨v,e,h⟩
theorem vOp(h:ta σ H λx a=>tb σ a λy b=>r x y b Q):tOp r ta tb σ H Q:=h
theorem vUn{f:V->Hp->VK->Prop}(h:ta σ H λx a=>f x a Q):tUn f ta σ H Q:=h
theorem vChain(h:ta σ H λx b=>tb σ b λy c=>r x y c λz a=>∃ k,z=.bl k/\if k=true then tc σ a λe d=>r' y e d Q else Q (.bl false) a):qeo r r' ta tb tc σ H Q:=h
theorem vNil(h:QA [] H):qc7 σ H QA:=h
theorem qeA(h:ta σ H λx a=>tr σ a λxs b=>QA (x::xs) b):j3 ta tr σ H QA:=h
theorem vCB{f:List V->Hp->VK->Prop}(h:tas σ H λvs a=>f vs a Q):tCB f tas σ H Q:=h
theorem qgC{E:XK}(h:tas σ H λvs a=>sp (vs++[]) a Q E):qd8 sp [] E tas σ H Q:=h
theorem qhA(h:tas σ H λxs a=>NewL xs a Q):qft tas σ H Q:=h
theorem vTup(h:tas σ H λxs a=>NewT xs a Q):qgu tas σ H Q:=h
theorem qfh(h:te σ H λx H'=>∃ k,x=.bl k/\QT k H'):qdd te σ H QT:=h
theorem vB(h:te σ H λx H'=>∃ k,x=.bl k/\QT k H'):tB te σ H QT:=h
theorem vNot(h:c σ H λb a=>QT (!b) a):qht c σ H QT:=h
theorem vAnd(h:c σ H λb a=>if b=true then c' σ a QT else QT false a):qhs c c' σ H QT:=h
theorem vOr(h:c σ H λb a=>if b=true then QT true a else c' σ a QT):tOr c c' σ H QT:=h
theorem vAndV(h:ta σ H λx a=>∃ k,x=.bl k/\if k=true then tb σ a Q else Q (.bl false) a):qgk ta tb σ H Q:=h
theorem vOrV(h:ta σ H λx a=>∃ k,x=.bl k/\if k=true then Q (.bl true) a else tb σ a Q):qhu ta tb σ H Q:=h
theorem vNotV(h:ta σ H λx a=>∃ k,x=.bl k/\Q (.bl (!k)) a):qgl ta σ H Q:=h
theorem vIf(h:c σ H λb a=>if b=true then ta σ a Q else tb σ a Q):tIf c ta tb σ H Q:=h
theorem vYes(h:QT true H):qhx σ H QT:=h
theorem vI0{g:Int->Int->V}(h:Q (g i j) H):rI0 g (.int i) (.int j) H Q:=⟨i,j,rfl,rfl,h⟩
theorem vI{C:Int->Int->Prop}{g:Int->Int->V}(hc:C i j)(h:Q (g i j) H):rI C g (.int i) (.int j) H Q:=⟨i,j,rfl,rfl,hc,h⟩
theorem vU{g:Int->V}(h:Q (g i) H):rU g (.int i) H Q:=⟨i,rfl,h⟩
theorem vEqI(h:Q (.bl (decide (i=j))) H):rEq (.int i) (.int j) H Q:=⟨rfl,by
 have e:decide (V.int i=V.int j)=decide (i=j):=by
  by_cases h:i=j
  .subst h;simp
  .rw [yk h,yk (λe=>h (V.int.inj e))]
 rw[e];show h⟩
theorem vEqB{i j:Bool}(h:Q (.bl (i==j)) H):rEq (.bl i) (.bl j) H Q:=⟨rfl,by rw[dec_bl];show h⟩
theorem qbF(b:H p=some (.lst xs))(a:atI xs i=some v)(h:Q v H):rIx K (.ref p) (.int i) H Q:=.inl ⟨p,xs,i,v,rfl,rfl,SqL.of b,a,h⟩
theorem vIxLs(b:SqL K H p xs)(a:atI xs i=some v)(h:Q v H):rIx K (.ref p) (.int i) H Q:=.inl ⟨p,xs,i,v,rfl,rfl,b,a,h⟩
theorem qe8(b:H p=some (.tup xs))(a:atI xs i=some v)(h:Q v H):rIx K (.ref p) (.int i) H Q:=.inr (.inl ⟨p,xs,i,v,rfl,rfl,SqT.of b,a,h⟩)
theorem vIxS{ch:Nat}(b:z.length<=sizeLine)(a:atI z.cps.toList i=some ch)(h:Q (.str ⟨#[ch]⟩) H):rIx K (.str z) (.int i) H Q:=.inr (.inr ⟨z,i,ch,rfl,rfl,b,a,h⟩)
theorem qgD{k:Int}{j:Nat}{a:Hp->Prop}(c:H p=some (.lst xs))(b:ixN xs.length k=some j)(h:a (upd H p (.lst (xs.set j v)))):rSetL (.ref p) (.int k) v H a:=⟨p,xs,k,j,rfl,rfl,c,b,h⟩
theorem vEx{k:Bool}{P:Bool->Prop}(h:P k):∃ k',V.bl k=.bl k'/\P k':=⟨k,rfl,h⟩
theorem vLeI(h:Q (.bl (decide (i<=j))) H):qhf (.int i) (.int j) H Q:=h
theorem vLeS{i j:Str}(h:Q (.bl (!decide (j.cps.toList<i.cps.toList))) H):qhf (.str i) (.str j) H Q:=h
theorem vIsB{i j:Bool}(h:Q (.bl (i==j)) H):rIsU (.bl i) (.bl j) H Q:=h
theorem vAddI(h:Q (.int (i+j)) H):qdh K (.int i) (.int j) H Q:=h
theorem qgE{i j:Str}(a:i.length+j.length<=sizeLine)(h:Q (.str (i++j)) H):qdh K (.str i) (.str j) H Q:=⟨a,h⟩
theorem qeB(hc:CMul i j)(h:Q (.int (i*j)) H):qgA (.int i) (.int j) H Q:=⟨hc,h⟩
theorem vLenS(a:z.length<=sizeLine)(h:Q (.int z.length) H):qcd K [.str z] H Q:=⟨a,h⟩
theorem qbG(a:H p=some (.lst ys))(h:Q (.int ys.length) H):qcd K [.ref p] H Q:=.inl ⟨ys,.inl (SqL.of a),h⟩
theorem qeC(a:SqL K H p ys)(h:Q (.int ys.length) H):qcd K [.ref p] H Q:=.inl ⟨ys,.inl a,h⟩
theorem qf1(a:H p=some (.tup ys))(h:Q (.int ys.length) H):qcd K [.ref p] H Q:=.inl ⟨ys,.inr (SqT.of a),h⟩
theorem qhB{lo a:Option Int}(b:z.length<=sizeLine)(h:Q (.str (Txt.slice z lo a)) H):qg3 K (.str z) lo a H Q:=⟨b,h⟩
theorem vSl{f:V->Option Int->Option Int->Hp->VK->Prop}{tl a:TO}(h:te σ H λx b=>tl σ b λl c=>a σ c λu d=>f x l u d Q):tSl f te tl a σ H Q:=h
theorem vNoPart(h:QO none H):qes σ H QO:=h
theorem vPart(h:te σ H λx a=>∃ i,x=.int i/\QO (some i) a):qgw te σ H QO:=h
theorem vExI{P:Int->Prop}(h:P i):∃ j,V.int i=.int j/\P j:=⟨i,rfl,h⟩
theorem vBM{f:V->List V->Hp->VK->Prop}(h:te σ H λx a=>tyV K T x a/\tas σ a λxs b=>f x xs b Q):tBM K T f te tas σ H Q:=h
theorem vBM0{f:V->List V->Hp->VK->Prop}(h:te σ H λx a=>tyV K T x a/\f x [] a Q):qhc K T f te σ H Q:=h
theorem vComp(h:wi σ H λJ a=>qfg J g c te (qei nl ixs σ) a Q):qf0 wi g c te nl ixs σ H Q:=h
theorem vFor (h:wi σ H λJ d=>∃ W:Nat->Nat->St->Hp->Prop,(∃ m,W 0 m σ d)/\∀ i m σ H,W i m σ H ->
 (J.stop i H/\D.nx σ H)\/(J.go i H/\∃ N:St->Hp->Prop,(∀ a H',N a H'->∃ c,c<m/\W (i+1) c a H')/\∀ x H',J.yld i H x H'->g x σ H' λb e=>t { D with nx:=N,ct:=N,bk:=D.nx } b e)):qhw wi g t D σ H:=h
theorem vRng1(h:tas σ H λvs a=>∃ j:Int,vs=[.int j]/\-(2 ^ 62)<=j/\j<2 ^ 62/\R (Itr 0 j.toNat) a):qgp tas σ H R:=h
theorem vAny (h:te σ H λv b=>match v with
 | .str x=>R (Its x) b
 | .ref a=>((∃ xs,SqL K b a xs)/\R (Itl K a) b)\/((∃ xs,SqT K b a xs)/\R (Itt K a) b)
 | _=>False):qhg K te σ H R:=h
theorem vGN{i:Nat}{a:St->Hp->Prop}(h:a (σ.set i (some v)) H):qdb i v σ H a:=h
theorem qb2{xs:List α}(b:0<=i)(h1:i<xs.length):∃ v,atI xs i=some v/\xs[i.toNat]?=some v:=by
 obtain⟨n,rfl⟩:=xD b;have a:n<xs.length:=by lk
 show⟨xs[n],qW (by simp[a]),by simp[a]⟩
end
section
variable{X:Cx}{K:yf}{o e:Expr}{es:List Expr}{to ta:TE}{t:TA}{name f:Str}{apos cpos pos:Pos}{T id:String}{r:V->List V->Hp->VK->Prop}{tg:Expr}
theorem zo(a:X.K=K):zX X (.builtin "len") (qcd K):=by subst a;show call_lenU
theorem k_all(a:X.K=K)(hc:X.calm=true):zX X (.builtin "all") (qhy K):=by subst a;show call_all hc
theorem qfw(a:X.K=K):SlR X (qg3 K):=by subst a;show u_sl
theorem qaP(a:X.K=K):OpR X (binaryOp .Add) (qdh K):=by subst a;show u_add
theorem jR(b:X.K=K)(c:PE X e ta)(a:∀ it v,letOwnedTupleGo tg it v=pure ():=by intro _ _;rfl):PI X tg e (qhg K ta):=by subst b;show pi_any c a
theorem qgF(e:X.K=K)(h:PlainAttrs T)(c:Slot T name id)(d:typeOf (.builtin id)=pure (.type "method_descriptor"))(f:MtR X id r)(g:PE X o to)
  (a:attributeBase o name X.env (eval o X.env)=eval o X.env:=by rfl) (b:(apos.endLine==cpos.line)=true:=by rfl):PE X (.Call (.Attribute o name apos) [] [] cpos) (qhc K T r to):=by
 subst e;show pe_bm0 h c d f g a b
theorem qeb(h:X.K=K)(n:PlainAttrs T)(f:Slot T name id)(g:typeOf (.builtin id)=pure (.type "method_descriptor"))(j:MtR X id r)(l:PE X o to)(i:PA X (e::es) t)
  (b:attributeBase o name X.env (eval o X.env)=eval o X.env:=by rfl)
  (d:((backTo cpos (starEach (e::es) X.env)).all (λx=>!x.1)&&(backToKw cpos (keywordEach [] X.env)).all (λx=>x.1.isSome)
   && decide ((e::es).length+([]:List Keyword).length+(if ([]:List Keyword).isEmpty then 0 else 1)<30))=true:=by rfl)
  (c:(apos.endLine==cpos.line)=true:=by rfl) (m:starEach (e::es) X.env=(false,eval e X.env)::starEach es X.env:=by rfl) (a:(backTo cpos (starEach es X.env)).any (·.1)=false:=by rfl) :
  PE X (.Call (.Attribute o name apos) (e::es) [] cpos) (tBM K T r to t):=by
 subst h;show pe_bm n f g j l i b d c m a
end
structure DefOk(P:Program)(w:World)(K:yf)(mg:Str->Option Value)(base:Heap)(CX:CXT)(k:Nat)(x:Str)(ps:LN)(sp:Sp):Prop where
 ex:∃ f fd,FnOk P w K mg base CX k f fd ps sp/\mg x=some (.ref f)/\PySem.W.keepIn K (.ref f)=true/\Binds K fd ps []
section
variable{X:Cx}{CX:CXT}{k:Nat}{ps:LN}{sp:Sp}{E:XK}{x:Str}{p pos:Pos}{e:Expr}{es:List Expr}{t:TA}
theorem qE(D:DefOk X.prog X.w X.K X.mg X.base CX k x ps sp)(j:Room k X.A)(l:zR CX X E)(c:PA X (e::es) t)(g:Gl X x:=by rfl)(a:(x==("__debug__":Str))=false:=by decide)
  (d:starEach (e::es) X.env=(false,eval e X.env)::starEach es X.env:=by rfl) (b:(backTo pos (starEach es X.env)).any (·.1)=false:=by rfl):PE X (.Call (.Name x p) (e::es) [] pos) (qd8 sp [] E t):=by
 obtain⟨f,fd,F,i,h,hb⟩:=D.ex;show pe_call F j g i h hb .nil l c a d b
theorem qaQ(c:Gl X x)(a:∃ tk,X.mg x=some (.int i tk))(b:(x==("__debug__":Str))=false:=by decide):PE X (.Name x pos) (tC (.int i)):=by
 obtain⟨tk,a⟩:=a;show zv c a ⟨tk,rfl⟩ b
end
def qbU(t c:String):Bool:=t==c||(t=="bool"&&c=="int")
theorem qbc(K:yf):∀ t∈wqo,∀ c∈["bool","int","str","list","tuple","dict"],PySem.W.kitOne K (.type t) (.type c)=some (qbU t c):=by
 intro t a c hc;simp only[yt,yv,yN] at a hc;rcases a with rfl | rfl | rfl | rfl | rfl | rfl | rfl<;>rcases hc with rfl | rfl | rfl | rfl | rfl | rfl<;>rfl
def qcs:List Value->Bool
 | [.type a,.type b,.type c,.type d]=>a=="ValueError"&&b=="Exception"&&c=="BaseException"&&d=="object"
 | .ref _::r=>qcs r
 | _=>false
def qg4(K:yf)(C:Addr):Bool:=match K.lookup C with
 | some ⟨.type "type",_,.cls cd,sl⟩=>(match cd.mro,sl.toList with
  | .ref D::bm,[_,_,_,_,some (.builtin n),_]=>D==C&&!cd.hasDel&&qcs bm&&n=="ValueError.__new__"
  | _,_=>false)
 | _=>false
theorem qdM{K:yf}(X:K.In h)(q:qg4 K C=true):∃ p r N bs d c sn b e a f g i j m o,
  h.get? C=some (excClassObj p r C N bs d c sn b e a f g i j m o "ValueError.__new__")/\qcs d=true:=by
 unfold qg4 at q;split at q
 .rename_i f cd sl ho
  split at q
  .rename_i D d g i j m n o hm hs
   simp only[yF,yM,Xj] at q;obtain⟨⟨⟨u,s⟩,v⟩,w⟩:=q;subst u w;obtain⟨p,bs,mro,ns,r,x,sn,b,e,a,t⟩:=cd;dsimp only at hm s;subst hm s;obtain⟨l⟩:=sl;dsimp only at hs;subst hs;show⟨p,r,ns,bs,d,x,sn,b,e,a,f,g,i,j,m,o,X _ _ ho,v⟩
  .cases q
 .cases q
structure XAt(K:yf)(C:Addr):Prop where
 ga:PySem.W.findIn K (.ref C) "__getattribute__"=some (some (.builtin "BaseException.__getattribute__"))
 gn:PySem.W.findIn K (.ref C) "__getattr__"=some none
 bx:PySem.W.mroIn K C (.type "BaseException")=some true
 ob:PySem.W.mroIn K C (.type "object")=some true
 hd:PySem.W.hasDictIn K C=true
 cl:PySem.W.findIn K (.ref C) "__class__"=some (some (.builtin "object.__class__"))
 cg:PySem.W.specialIn K (.builtin "object.__class__") "__get__"=some (some (.builtin "getset_descriptor.__get__"))
 ct:PySem.W.takesIn K (.builtin "object.__class__")=some true
 sa:PySem.W.findIn K (.ref C) "__setattr__"=some (some (.builtin "object.__setattr__"))
 mr:(PySem.W.clsIn K C).any (λcd=>qcs cd.mro)=true
 xc:qg4 K C=true
theorem bexc_ga_slot:Slot "ValueError" "__getattribute__" "BaseException.__getattribute__":=PySem.F.attr_ValueError.ga
section
variable{prog:Program}{w:World}{A:Around}{E:Value->Shared->Prop}{s:Shared}{K:yf}{x C:Addr}{ox:Obj}{od:Option Obj}{name:Str}{v:Value}
theorem xga_value{Q:Fin->Shared->Prop}(X:K.In s.heap)(I:PySem.W.InstAt s.heap x ox C od)(a:PySem.W.findObj K C od name=some (.value v))(h:Q (.done (.ret v)) s) :
  wpAny (model prog w) A (Builtin.«object.__getattribute__» ⟨[.ref x,.str name tk],[]⟩) Q E s:=by
 have F:=PySem.W.looks_find (M:=model prog w) X I a;show yp (yu (yp (yu (yp (I.type.here (yp (F.here ?_)))))));show yu h
theorem xga_call{R:Result->Shared->Prop}(X:K.In s.heap)(I:PySem.W.InstAt s.heap x ox C od)(hb:PySem.W.mroIn K C (.type "BaseException")=some true)
  (h:wpAny (model prog w) A.in1 (Builtin.«object.__getattribute__» ⟨[.ref x,.str name tk],[]⟩) (λa s'=>match a with | .done f=>R (.ok f) s' | .again c'=>c'.quiet=true/\codeAny (model prog w) A c' R s') (λe s'=>R (.error e) s') s) :
  codeAny (model prog w) A (.call (.builtin "BaseException.__getattribute__") ⟨[.ref x,.str name tk],[]⟩) R s:=by
 show xt bexc_ga_slot.plain PySem.F.entry_bexc_ga ?_;show @PySem.W.check_slot (model prog w) _ _ s "BaseException.__getattribute__" "BaseException" "__getattribute__" (.ref x) [.str name tk] [] _ (by room) (by room) (I.type.andThen (YT X hb)) (PySem.F.args_bexc_ga _ _) h
theorem qeD{b:Bool}{Q:Value->Shared->Prop}(X:K.In s.heap)(I:PySem.W.InstAt s.heap x ox C od)(c:XAt K C)
  (h:wpAny (model prog w) A.in1 (Builtin.«object.__getattribute__» ⟨[.ref x,.str name tk],[]⟩) (λa s'=>match a with | .done (.ret v)=>wpAny (model prog w) A (handedOut v) Q E s' | _=>False) (λ_ _=>False) s) :
  wpAny (model prog w) A (getAttrBy (.ref x) (.str name tk) b expr) Q E s:=by
 unfold getAttrBy;show Yk (yp (I.type.here (yp ((Yq X c.ga).here ?_))))
 have d:(onTheHeap (Value.ref C)&&Value.builtin "BaseException.__getattribute__"==Value.builtin "object.__getattribute__")=false:=by
  rw[show(Value.builtin "BaseException.__getattribute__"==Value.builtin "object.__getattribute__")=false by room];rfl
 dsimp only;rw[d,yw (by decide)];unfold getAttrByItsOwn hookBefore;rw[yB (show onTheHeap (Value.ref C)=true from rfl)];show yp ((Yq X c.gn).here (yp (wpAny_attempt (Yk ?_))));have e:(expr&&onTheHeap (Value.builtin "BaseException.__getattribute__"))=false:=by cases expr<;>rfl
 unfold callGetattribute;rw[e,yw (by decide)];unfold boundAndCalled;rw[bexc_ga_slot.bind];show yp (yu ?_);show wpAny _ _ (call (.builtin "BaseException.__getattribute__") [.ref x,.str name tk]) _ _ _;show YZ (xga_call X I c.bx (Yd h (λa s' z=>?_) λ_ _ z=>z.elim));rcases a with(_ | _ | _ | _) | _<;>first | show z | show z.elim
theorem xget{Q:Value->Shared->Prop}(X:K.In s.heap)(I:PySem.W.InstAt s.heap x ox C od)(c:XAt K C)(a:PySem.W.findObj K C od name=some (.value v))(b:PySem.W.handedIn v=true)
  (h:Q v { s with toks:=s.toks+1 }):wpAny (model prog w) A (getAttr (.ref x) name expr) Q E s:=by
 unfold getAttr;show yp (wpAny_mkText (qeD (s:={ s with toks:=s.toks+1 }) X I c (xga_value (s:={ s with toks:=s.toks+1 }) X I a ?_)));show wpAny _ _ (handedOut v) _ _ _;rw[PySem.W.handedOut_of b];show yu h
theorem xclass{Q:Option Value->Shared->Prop}(X:K.In s.heap)(I:PySem.W.InstAt s.heap x ox C od)(c:XAt K C)(a:PySem.W.findObj K C od "__class__"=some (.bind (.builtin "getset_descriptor.__get__") (.builtin "object.__class__")))
  (h:Q (some (.ref C)) { s with toks:=s.toks+1 }):wpAny (model prog w) A (getAttr? (.ref x) "__class__") Q E s:=by
 unfold getAttr? getAttrBy?;show yp (wpAny_mkText (yp (wpAny_attempt (qeD (s:={ s with toks:=s.toks+1 }) X I c ?_))));have F:=PySem.W.looks_find (M:=model prog w) X I a;show yp (yu (yp (yu (yp (I.type.here (s:={ s with toks:=s.toks+1 }) (yp (F.here (s:={ s with toks:=s.toks+1 }) ?_)))))));show wpAny _ _ (holding [Value.builtin "object.__class__"] (call (.builtin "getset_descriptor.__get__") [.builtin "object.__class__",.ref x,.ref C])>>=ret) _ _ _;show yp (Yk (YZ (PySem.W.class_get (s:={ s with toks:=s.toks+1 }) X I c.ob ?_)));show yu ?_;show wpAny _ _ (handedOut (.ref C)) _ _ _;show yu (yu h)
theorem findObj_class(c:XAt K C):PySem.W.findObj K C od "__class__"=some (.bind (.builtin "getset_descriptor.__get__") (.builtin "object.__class__")):=by
 obtain⟨a,hc,_⟩:=xz c.hd;unfold PySem.W.findObj;rw[hc,Option.bind_some,c.cl,Option.bind_some];simp[c.cg,c.ct]
theorem qdN(c:XAt K C):PySem.W.KitX K (.ref x) (.ref C) (λh=>PySem.W.InstAt h x ox C od) where
 ty:=λ_ _ _ I=>I.type
 it:=λ_ _ X _=>by
  obtain⟨b,hc,_⟩:=xz c.hd;unfold PySem.W.clsIn at hc;split at hc
  .rename_i c1 d1 cd1 sl1 ho
   intro f i g s' k q;unfold isType loadHead;show yp (wpAny_loadPart (k _ _ (X _ _ ho)) (yu q))
  .cases hc
 ne:=λh d j its n l X a=>by
  obtain⟨b,hc,_⟩:=xz c.hd;show Bool.eq_false_iff.mpr λq=>?_;have e:C=d:=XC (yM.mp q);subst e;unfold PySem.W.clsIn at hc;split at hc
  .rename_i c1 d1 cd1 sl1 ho
   have z:=(X _ _ ho).symm.trans a;cases z
  .cases hc
 ca:=λX I k=>xclass X I c (findObj_class c) k
end
theorem qcQ{r:List Value}(e:qcs (.ref c::r)=true):qcs r=true:=by
 cases r with
 | nil=>cases e
 | cons a r=>show e
theorem qaR:∀{l:List Value},qcs l=true->∃ rs:LX,l=rs.map Value.ref++[.type "ValueError",.type "Exception",.type "BaseException",.type "object"]
 | [],e=>by cases e
 | .ref c::r,e=>by
  obtain⟨rs,q⟩:=qaR (qcQ e);show⟨c::rs,by rw[q];rfl⟩
 | .type a::r,e=>by
  match r,e with
  | [.type b,.type c,.type d],e =>
   simp only[qcs,yF,yM] at e;obtain⟨⟨⟨rfl,rfl⟩,rfl⟩,rfl⟩:=e;show⟨[],rfl⟩
theorem refuse_exc(self:Value)(e:qcs l=true):refuseLoop self "__setattr__" l=pure ():=by
 obtain⟨rs,rfl⟩:=qaR e
 induction rs with
 | nil=>show PySem.F.store_ValueError.passes self
 | cons c rs ih=>rw[yP,Xx,refuseLoop_ref];show ih (qcQ e)
theorem qaS(e:qcs l=true)(h:T∈wqD):l.contains (.type T)=true:=by
 obtain⟨rs,rfl⟩:=qaR e;rw[List.contains_iff_mem];show yE _ ?_;simp only[yt,yv,yN] at h ⊢;rcases h with rfl | rfl | rfl | rfl<;>simp
section
variable{prog:Program}{w:World}{A:Around}{E:Value->Shared->Prop}{s:Shared}{K:yf}{x C:Addr}{name:Str}{v:Value}{R:Result->Shared->Prop}
theorem xosa(X:K.In s.heap)(I:PySem.W.InstAt s.heap x ox C od)(c:XAt K C)(n:NoAttr K C name)
  (h:wpAny (model prog w) A.in1 (Builtin.ObjectAttr.storeInOwnDict (.ref x) (.ref C) (.str name tk) name v false)
   (λb s'=>match b with | .done f=>R (.ok f) s' | .again c'=>c'.quiet=true/\codeAny (model prog w) A c' R s') (λe s'=>R (.error e) s') s) :
  codeAny (model prog w) A (.call (.builtin "object.__setattr__") ⟨[.ref x,.str name tk,v],[]⟩) R s:=by
 have a:=PySem.F.store_object;obtain⟨d,hc,i⟩:=xz c.mr;have g:PySem.W.Looks (model prog w) s.heap (mroOf (.ref C)) d.mro:=(XT X hc).andThen .now;show xt a.slot.plain a.entry (@PySem.W.check_slot (model prog w) _ _ s "object.__setattr__" "object" "__setattr__" (.ref x) [.str name tk,v] [] _ a.kind a.split (I.type.andThen (YT X c.ob)) (a.args (.ref x) (.str name tk) v) ?_);rw[PySem.W.osa_eq,refuse_eq];show yp (yp (I.type.here (yp (g.here ?_))));rw[refuse_exc _ i];show yu (yp (I.type.here (yp ((Yq X n).here (yp (yu ?_))))));show h
theorem xset{vs:Array Value}(X:K.In s.heap)(m:s.heap.get? x=some ⟨.ref C,none,.fields vs,#[]⟩)(c:XAt K C)(n:NoAttr K C name){Q:Unit->Shared->Prop}
  (h:∀ h',h'.get? x=some ⟨.ref C,some s.heap.objs.size,.fields vs,#[]⟩->h'.Ns1 s.heap.objs.size (λy=>if y=name then some v else none)->(∀ b o,b≠x->s.heap.get? b=some o->h'.get? b=some o) ->
   Q () { s with heap:=h',toks:=s.toks+2 }):wpAny (model prog w) A (setAttr (.ref x) name v) Q E s:=by
 have I:PySem.W.InstAt s.heap x ⟨.ref C,none,.fields vs,#[]⟩ C none:=⟨m,rfl,rfl,Yp⟩;obtain⟨L,hc,D⟩:=xz c.hd;show PySem.W.set_plain X I c.sa (xosa (s:={ s with toks:=s.toks+1 }) X I c n ?_);show yp (yu (yp (yp (wpAny_loadPart m (yp ((XT X hc).here (s:={ s with toks:=s.toks+1 }) ?_))))));rw[D];obtain⟨a,g,M,tk,O⟩:=s;show wpAny _ _ (alloc { cls:=.type "dict",data:=.dict #[] }>>=λd=>update x (λo=>{ cls:=o.cls,dict:=some d,data:=o.data,slots:=o.slots })>>=λ_=>pure (some d)) _ _ _;have l:x≠a.objs.size:=yG (yy m);have i:=yq { cls:=.type "dict",data:=.dict #[] } m;show yp (wpAny_alloc' (yp (wpAny_update' i (yu ?_))));have j:=xl (λo:Obj=>{ cls:=o.cls,dict:=some a.objs.size,data:=o.data,slots:=o.slots }) i rfl;have f:=(Heap.get?_update_ne (a.push { cls:=.type "dict",data:=.dict #[] }) a.objs.size x (λo:Obj=>{ cls:=o.cls,dict:=some a.objs.size,data:=o.data,slots:=o.slots }) l.symm).trans (km rfl rfl);generalize G:(a.push { cls:=.type "dict",data:=.dict #[] }).update x (λo:Obj=>{ cls:=o.cls,dict:=some a.objs.size,data:=o.data,slots:=o.slots })=h2 at j f ⊢;have J:h2.Ns a.objs.size (λ_=>none):=⟨_,#[],_,f,rfl,λe F=>absurd F (by simp),λ_=>rfl⟩;show wpAny _ _ (Builtin.ObjectAttr.storeInDict a.objs.size (.str name tk) name v) _ _ _;unfold Builtin.ObjectAttr.storeInDict Builtin.ObjectAttr.newKeyGuard;show yp (yu (yp (wpAny_nsSet1 (Heap.Ns1.of_empty J) λh' u z=>?_)));obtain⟨N,p,B,t,r,q⟩:=u.count (PySem.Within.cons name v PySem.Within.nil);have H:p.size<=sizeLine:=yh q (by rw[Yb,xF,kD];lk);show yp (wpAny_lookBehind t (by rw[r];show pastItsLine_dict (Nat.le_succ_of_le H)) ?_);show yu (h h' ((z.2 x l).trans j) u λb o hb e=>(z.2 b (yG (yy e))).trans ?_);rw[<- G];show(Heap.get?_update_ne _ _ _ _ hb).trans (yq _ e)
theorem ve_check{Q:Unit->Shared->Prop}(X:K.In s.heap)(c:XAt K C)(l:s.heap.get? x=some ox)(a:ox.cls=.ref C)(q:Q () s) :
  wpAny M A (checkBuiltinCall "ValueError.__init__" ⟨[.ref x,u],[]⟩) Q E s:=by
 have F:=YJ;have b:=F.noStar;obtain⟨B,G,N,bs,h,f,sn,m,n,i,o,t,v,w,y,z,e,j⟩:=qdM X c.xc;have d:(Value.ref C::h).contains (.type "ValueError")=true:=by rw[yW,qaS j (by simp),kc]
 obtain⟨r,g,p,tk,D⟩:=s;simp only[checkBuiltinCall,F.initKind,F.initSplit,F.initRow]
 repeat (first | (with_reducible show Yl l ?_;rw[a]) | with_reducible show Yl e ?_ | (with_reducible show YU e ?_;rw[d]) | wp_step)
 show q
abbrev xfs(a0:Addr):Array Value:=#[.ref a0,.none,.none,.none,.bool false,.none]
theorem xbase_init(X:K.In s.heap)(a:s.heap.get? x=some ⟨.ref C,none,.fields (xfs a0),#[]⟩)(c:XAt K C){Q:Value->Shared->Prop}
  (h:∀ h' d,h'.get? x=some ⟨.ref C,none,.fields (xfs d),#[]⟩->(∀ b o,b≠x->s.heap.get? b=some o->h'.get? b=some o)->Q .none { s with heap:=h' }) :
  wpAny (model prog w) A (call (.builtin "ValueError.__init__") [.ref x,u]) Q E s:=by
 have F:=YJ;show YZ (xt F.init.plain F.initEntry (ve_check X c a rfl ?_));obtain⟨f,g,i,tk,j⟩:=s
 wp_walk
 show h _ f.objs.size ?_ λb o hb e=>?_
 .rw [xl _ (yq _ a) rfl];rfl
 .rw [Yg _ _ (YW hb)];show yq _ e
end
theorem qdO(e:qcs l=true)(h:T∉wqD):l.contains (.type T)=false:=by
 obtain⟨rs,rfl⟩:=qaR e;show Bool.eq_false_iff.mpr λq=>?_;rcases Yj.mp (List.contains_iff_mem.mp q) with z | z
 .obtain⟨a,_,q⟩:=yK.mp z;cases q
 .simp only[yt,yv,yN,Value.type.injEq] at z h;show h z
section
variable{prog:Program}{w:World}{A:Around}{R:Result->Shared->Prop}{E:Value->Shared->Prop}{h:Heap}{g:Array GenState}{d:Drawn}{t:Nat}{os:OsState}
variable{nm q:Str}{C N:Addr}{bs bm:List Value}{hdct:Bool}{sn:LN}{sub:List Value}{ab:Bool}{col:Option Bool}{dd:Option Addr}{k0 k1 k2 k3 k5:Option Value}
theorem xnew_check{rest:List Value}{Q:Unit->Shared->Prop}(b:h.get? C=some (excClassObj nm q C N bs bm hdct sn sub ab col dd k0 k1 k2 k3 k5 "ValueError.__new__"))(e:qcs bm=true)(f:Q () ⟨h,g,d,t,os⟩) :
  wpAny M A (checkBuiltinCall "ValueError.__new__" ⟨.ref C::rest,[]⟩) Q E ⟨h,g,d,t,os⟩:=by
 have F:=YJ;have a:(Value.ref C::bm).contains (.type "ValueError")=true:=by rw[yW,qaS e (by simp),kc]
 have c:=F.noStar;simp only[checkBuiltinCall,F.newKind,F.newSplit,F.newRow]
 repeat (first | show Yl b ?_ | (show YU b ?_;rw[a]) | show wpAny_staticBase_exc b ?_ | show wpAny_madeBy_exc b ?_ | simp only[bne_self_eq_false,kf,ku] | wp_step)
 show f
theorem xnew{rest:List Value}(b:h.get? C=some (excClassObj nm q C N bs bm hdct sn sub ab col dd k0 k1 k2 k3 k5 "ValueError.__new__"))(j:qcs bm=true)(l:rest.length<=sizeLine)
  (m:R (.ok (.ret (.ref (h.objs.size+1)))) ⟨(h.push { cls:=.type "tuple",data:=.seq rest.toArray }).push { cls:=.ref C,data:=.fields (xfs h.objs.size) },g,d,t,os⟩) :
  codeAny (model prog w) A (.builtin "ValueError.__new__" ⟨.ref C::rest,[]⟩) R ⟨h,g,d,t,os⟩:=by
 have F:=YJ;have i:=F.ends;have e:(Value.ref C::bm).contains (.type "ValueError")=true:=by rw[yW,qaS j (by simp),kc]
 have c:(Value.ref C::bm).contains (.type "AttributeError")=false:=by rw[yW,qdO j (by simp)];rfl
 have f:(Value.ref C::bm).contains (.type "NameError")=false:=by rw[yW,qdO j (by simp)];rfl
 show codeAny_builtinAt F.entry ?_;unfold Builtin.«BaseException.__new__»;show PySem.wpAt_bind ?_;show PySem.wpAt _ _ _ (stack>>=_) _ _ _;show PySem.wpAt_bind (PySem.wpAt_stack λn a=>PySem.wpAt_of_wpAny ?_)
 wp_walk
 show PySem.wpAt_of_wpAny ?_;rw[F.owner]
 repeat (first | with_reducible show wpAny_madeHere_exc F.canon b ?_ | with_reducible show Yl b ?_ | (with_reducible show YU b ?_;first | rw[e] | rw[c] | rw[f]) | wp_step)
 show R _ _;rw[YQ];show m
theorem xtype_call{K:yf}{rest:List Value}{Q:Fin->Shared->Prop}(X:K.In h)(c:h.get? C=some (excClassObj nm q C N bs bm hdct sn sub ab col dd k0 k1 k2 k3 k5 "ValueError.__new__"))(m:qcs bm=true)
  (u:PySem.W.findIn K (.ref C) "__init__"=some (some (.ref f))) (s:PySem.W.isFn K (.ref f)=true) (a:rest.length<=sizeLine)
  (v:wpAny (model prog w) A (call (.ref f) (.ref (h.objs.size+1)::rest)) (λr s'=>r=.none/\Q (.done (.ret (.ref (h.objs.size+1)))) s') E
   ⟨(h.push { cls:=.type "tuple",data:=.seq rest.toArray }).push { cls:=.ref C,data:=.fields (xfs h.objs.size) },g,d,t,os⟩) :
  wpAny (model prog w) A (Builtin.«type.__call__» ⟨.ref C::rest,[]⟩) Q E ⟨h,g,d,t,os⟩:=by
 have F:=YJ
 repeat (first | with_reducible show Yl c ?_ | with_reducible show wpAny_madeBy_exc c ?_ | wp_step)
 show codeAny_call_builtin_code (Code.quiet_builtin _ F.quiet) (xnew_check c m (xnew c m a ?_));show wpAny _ _ _ _ _ _;have n:∀ b o,h.get? b=some o->((h.push { cls:=.type "tuple",data:=.seq rest.toArray }).push { cls:=.ref C,data:=.fields (xfs h.objs.size) }).get? b=some o:=λb o e=>yq _ (yq _ e);have hC1:=n _ _ c;have i:((h.push { cls:=.type "tuple",data:=.seq rest.toArray }).push { cls:=.ref C,data:=.fields (xfs h.objs.size) }).get? (h.objs.size+1)=some { cls:=.ref C,data:=.fields (xfs h.objs.size) }:=km (by rw[YQ]) rfl;have l:K.In ((h.push { cls:=.type "tuple",data:=.seq rest.toArray }).push { cls:=.ref C,data:=.fields (xfs h.objs.size) }):=X.keeps n;have j:(Value.ref C::bm).contains (.ref C)=true:=by simp
 unfold isInstance
 repeat (first | with_reducible show Yl i ?_ | (with_reducible show YU hC1 ?_;rw[j]) | wp_step)
 show wpAny _ _ (typeLookup (.ref C) _) _ _ _;show(Yq l u).at (Yk (yp ((PySem.W.bind_fn l _ (yM.mp s)).at (yp (Yd v (λr s' x=>?_) λ_ _ z=>z)))));obtain⟨rfl,p⟩:=x
 wp_walk
 show p
theorem xcall{K:yf}{rest:List Value}{Q:Value->Shared->Prop}(X:K.In s.heap)(c:XAt K C)(i:PySem.W.findIn K (.ref C) "__init__"=some (some (.ref f)))(e:PySem.W.isFn K (.ref f)=true)(a:rest.length<=sizeLine)
  (l:wpAny (model prog w) (A.under (.builtin "type.__call__" ⟨.ref C::rest,[]⟩)) (call (.ref f) (.ref (s.heap.objs.size+1)::rest)) (λr s'=>r=.none/\Q (.ref (s.heap.objs.size+1)) s') E
   { s with heap:=(s.heap.push { cls:=.type "tuple",data:=.seq rest.toArray }).push { cls:=.ref C,data:=.fields (xfs s.heap.objs.size) } }) :
  wpAny (model prog w) A (call (.ref C) rest) Q E s:=by
 obtain⟨nm,p,N,bs,bm,hdct,sn,sub,ab,col,dd,k0,k1,k2,k3,k5,b,j⟩:=qdM X c.xc;obtain⟨h,g,d,t,os⟩:=s;have m:=tc_lookup;have n:=tc_bind (.ref C);have o:(⟨h,g,d,t,os⟩:Shared).TypeIs (.ref C) "type":=⟨_,b,rfl⟩;show YZ (codeAny_of_tree ?_);show wpAny _ _ (callAny (.ref C) _) _ _ _
 repeat (any_goals (first | assumption | with_reducible show Yl b ?_ | wp_step))
 show⟨rfl,?_⟩;show codeAny_call_builtin_at (Code.quiet_builtin _ (by room)) entry_typeCall (wpAny_check_type_call_sub b (xtype_call X b j i e a l))
end
def XN(e C:Addr)(dx:Option Addr):HO:=.ext λh=>∃ a0,h.get? e=some ⟨.ref C,dx,.fields (xfs a0),#[]⟩
def XO(e C:Addr)(dx:Option Addr):HO:=.ext λh=>∃ vs,h.get? e=some ⟨.ref C,dx,.fields vs,#[]⟩
theorem XN.ok(q:h.get? e=some ⟨.ref C,dx,.fields (xfs a0),#[]⟩):ObjOk P w H h e (XN e C dx):=
 ⟨⟨a0,q⟩,⟨_,q⟩,λ_ _ ⟨a,x⟩ k=>⟨a,k _ x⟩⟩
theorem XO.ok{vs:Array Value}(q:h.get? e=some ⟨.ref C,dx,.fields vs,#[]⟩):ObjOk P w H h e (XO e C dx):=
 ⟨⟨vs,q⟩,⟨_,q⟩,λ_ _ ⟨a,x⟩ k=>⟨a,k _ x⟩⟩
def IsX(H:Hp)(e C:Addr)(dx:Option Addr):Prop:=H e=some (XN e C dx)\/H e=some (XO e C dx)
theorem IsX.get(q:IsX H e C dx)(b:HOk P w H h):∃ vs,h.get? e=some ⟨.ref C,dx,.fields vs,#[]⟩:=by
 rcases q with q | q
 .obtain⟨⟨a,x⟩,_⟩:=(show ObjOk P w H h e (XN e C dx) from b e _ q);show⟨_,x⟩
 .obtain⟨⟨a,x⟩,_⟩:=(show ObjOk P w H h e (XO e C dx) from b e _ q);show⟨_,x⟩
theorem upd_id{o:HO}(h:H a=some o):upd H a o=H:=by
 funext b;unfold upd;split
 .rename_i e;subst e;show h.symm
 .rfl
section
variable{X:Cx}{pins:List (Addr×Obj)}{σ:St}{H:Hp}{s:Shared}{e C:Addr}{dx:Option Addr}
theorem qfx(I:Inv X pins σ H s){d:Addr}{fs:List (Str×V)}(h:H d=some (.xd fs)):∃(od:Obj) (a:Str->Option Value),s.heap.get? d=some od/\(∀ name,PySem.W.lookIn name od=some (a name))/\∀ f,RelO (fs.lookup f) (a f):=by
 obtain⟨a,n,r⟩:=(show ObjOk X.prog X.w H s.heap d (.xd fs) from I.hok d _ h);obtain⟨od,h1,b⟩:=qcD n;show⟨od,a,h1,b,r⟩
end
section
variable{X:Cx}{pins:List (Addr×Obj)}{σ:St}{H:Hp}{s:Shared}{a d:Addr}{h':Heap}{o u:HO}{t':Nat}
theorem Inv.both(I:Inv X pins σ H s)(i:Mut (H a))(l:s.heap.objs.size<=d)(k:∀ b v,b≠a->s.heap.get? b=some v->h'.get? b=some v)(m:∃ v,h'.get? a=some v)
  (p:ObjOk X.prog X.w (upd (upd H d u) a o) h' a o) (t:ObjOk X.prog X.w (upd (upd H d u) a o) h' d u) (A:d≠a):Inv X pins σ (upd (upd H d u) a o) { s with heap:=h',toks:=t' }:=by
 have x:H d=none:=I.hok.fresh l;have f:∀ b q,H b=some q->¬ Mut (some q)->b≠a:=λb q e y z=>by subst z;rw[e] at i;show y i
 have j:∀ b,H b=none->b≠a:=λb e z=>by subst z;rw[e] at i;show i
 have big:∀ b v,s.heap.get? b=some v->b≠d:=λb v e=>yG (yi (yy e) l);have h:∀ b q,H b=some q->b≠a->upd (upd H d u) a o b=some q:=λb q e n=>by rw[qh n,qh (qq e x)];show e
 show I.un ⟨λb v e n _ _=>k b v (j b n) e,λb v e n _ _=>⟨v.slots,k b v (j b n) e⟩,λb v e n _=>by rw[qh (j b n),qh (big b v e)];show n,λb v e _=>?_,λb xs e=>h b _ e (f b _ e λz=>z),λb q xs e=>h b _ e (f b _ e λz=>z),
  λb ps e=>⟨#[],by rw[h b _ e (f b _ e λz=>z)];simp⟩⟩ λb q e=>?_
 .by_cases hb:b=a
  .subst hb;show m
  .show⟨v,k b v hb e⟩
 .by_cases hb:b=a
  .subst hb;rw[qc] at e;cases e;show p
  .rw [qh hb] at e;by_cases g:b=d
   .subst g;rw[qc] at e;cases e;show t
   .rw [qh g] at e;show(I.hok b q e).stay (λc v hc r=>k c v ?_ r) (λc r=>h c _ r (f c _ r λz=>z)) λc xs r=>h c _ r (f c _ r λz=>z);rcases hc with rfl | hc
    .show hb
    .show f c _ hc λz=>z
end
inductive FldR(K:yf)(f:Str)(x:V)(H:Hp)(Q:VK):Prop|mk (a C dx:Addr) (fs:List (Str×V)) (v:V) (_:x=.ref a) (_:H a=some (.ins C dx fs)) (_:Cls K C) (_:NoAttr K C f) (_:fs.lookup f=some v) (_:Q v H)
inductive XFlR(K:yf)(f:Str)(x:V)(H:Hp)(Q:VK):Prop|mk (a C dx:Addr) (fs:List (Str×V)) (v:V) (_:x=.ref a) (_:IsX H a C (some dx)) (_:XAt K C) (_:NoAttr K C f) (_:H dx=some (.xd fs)) (_:fs.lookup f=some v) (_:Q v H)
inductive FlUR(K:yf)(f:Str)(x:V)(H:Hp)(Q:VK):Prop | inl (_:FldR K f x H Q) | inr (_:XFlR K f x H Q)
inductive SFdR(K:yf)(f:Str)(x y:V)(H:Hp)(k:Hp->Prop):Prop|mk (a C dx:Addr) (fs:List (Str×V)) (_:x=.ref a) (_:H a=some (.ins C dx fs)) (_:Cls K C) (_:NoAttr K C f) (_:fs.length<1000) (_:k (upd H a (.ins C dx (qZ f y fs))))
inductive SXdR(K:yf)(f:Str)(x y:V)(H:Hp)(k:Hp->Prop):Prop|mk (a C:Addr) (_:x=.ref a) (_:H a=some (XN a C none)) (_:XAt K C) (_:NoAttr K C f) (_:∀ dx,H dx=none->k (upd (upd H dx (.xd [(f,y)])) a (XN a C (some dx))))
inductive SFUR(K:yf)(f:Str)(x y:V)(H:Hp)(k:Hp->Prop):Prop | inl (_:SFdR K f x y H k) | inr (_:SXdR K f x y H k)
def qgG(K:yf)(b:TE)(f:Str):TE:=fun σ H Q=>b σ H λx a=>FlUR K f x a Q
def qgH(K:yf)(c d:TE)(f:Str):TS:=λD σ H=>d σ H λy a=>c σ a λx b=>SFUR K f x y b (D.nx σ)
section
variable{X:Cx}{o e value:Expr}{f:Str}{pos pos':Pos}{ta tv:TE}{K:yf}
theorem qK(w:X.K=K)(z:PE X e ta)(hb:attributeBase e f X.env (eval e X.env)=eval e X.env):PE X (.Attribute e f pos) (qgG K ta f):=by
 subst w;intro pins s σ H Q I h;show attr_of hb (thn (z pins s σ H _ I h) λu E ⟨x,j,b,m,i⟩=>?_);rcases i with⟨a,C,dx,fs,v,rfl,g,c,n,l,q⟩ | ⟨a,C,dx,fs,v,rfl,g,c,n,y,l,q⟩
 .obtain rfl:u=Value.ref a:=m;show getattr_ok b g c n l λD F p d=>⟨v,j,p,d,q⟩
 .obtain rfl:u=Value.ref a:=m;obtain⟨vs,i⟩:=g.get b.hok;obtain⟨od,B,h1,t,r⟩:=qfx b y;obtain⟨D,A,d⟩:=RelO.some_of (v:=v) (o:=B f) (by rw[<- l];show r f);show xget b.kIn (od:=some od) ⟨i,rfl,rfl,h1⟩ c (PySem.W.findObj_own c.hd n rfl (by rw[t,A])) (qcE d) ⟨v,j,b.tok _,d,q⟩
theorem ju(J:X.K=K)(L:PE X o ta)(hv:PE X value tv)(M:swapsWith value (some (.Attribute o f pos')) pos.line X.env=pure false):PS X (.Assign [.Attribute o f pos'] value pos) (qgH K ta tv f):=by
 subst J;intro pins s σ H D I h;show plainObj_wpAny_Assign_Attribute (thn (hv pins s σ H _ I h) λu P ⟨y,A,B,z,q⟩=>thn (L pins P σ A _ B q) λt i ⟨x,p,b,v,e⟩=>?_) M;rcases e with⟨a,C,dx,fs,rfl,d,c,n,l,m⟩ | ⟨a,C,rfl,d,c,n,m⟩
 .obtain rfl:t=Value.ref a:=v;show setattr_ok b d c n l z λR E=>⟨σ,_,E,m⟩
 .obtain rfl:t=Value.ref a:=v;obtain⟨⟨a0,e⟩,_⟩:=(show ObjOk X.prog X.w p i.heap a (XN a C none) from b.hok a _ d);show xset b.kIn e c n λh' r F G=>?_;have N:p i.heap.objs.size=none:=b.hok.fresh (yg _);have O:i.heap.objs.size≠a:=Xe (yy e);show⟨σ,_,b.both (o:=XN a C (some i.heap.objs.size)) (u:=.xd [(f,y)]) (by rw[d];show Yp) (yg _) G ⟨_,r⟩ (XN.ok r) ⟨_,F,λg=>?_⟩ O,m _ N⟩;by_cases j:g=f
  .subst j;simp only[List.lookup,YY,xI];show z
  .have hb:(g==f)=false:=yZ.mpr j;simp only[List.lookup,hb,yw j];show Yp
end
def qcR(C:Addr)(sp:Sp)(E:XK)(t:TA):TE:=fun σ H Q=>t σ H λvs a=>vs.length<=1000/\∀ x,a x=none->sp (.ref x::vs) (upd a x (XN x C none)) (λv b=>v=.non/\Q (.ref x) b) E
structure XMk(K:yf)(C f:Addr):Prop where
 at_:XAt K C
 init:PySem.W.findIn K (.ref C) "__init__"=some (some (.ref f))
 fn:PySem.W.isFn K (.ref f)=true
 kp:PySem.W.keepIn K (.ref C)=true
section
variable{X:Cx}{CX:CXT}{k:Nat}{f C:Addr}{fd:FuncData}{ps:LN}{sp:Sp}{E:XK}{x m:Str}{p pos apos:Pos}{e o:Expr}{es:List Expr}{ta:TE}{t:TA}
theorem qcS{Q:VK}(M:XMk X.K C f)(F:FnOk X.prog X.w X.K X.mg X.base CX k f fd ps sp)(y:Room (k+1) X.A)(hb:Binds X.K fd ps [])
  (B:zR CX X E) (I:Inv X pins σ H s) (r:Vals vs us) (i:vs.length<=1000) (h:∀ x,H x=none->sp (.ref x::vs) (upd H x (XN x C none)) (λv n=>v=.non/\Q (.ref x) n) E) :
  wpAny (model X.prog X.w) X.A (call (.ref C) us) (EP X pins σ Q) X.xe s:=by
 have l:=h (s.heap.objs.size+1) (I.hok.fresh (xN _));have J:∀ b o,s.heap.get? b=some o->((s.heap.push { cls:=.type "tuple",data:=.seq us.toArray }).push { cls:=.ref C,data:=.fields (xfs s.heap.objs.size) }).get? b=some o:=λb o q=>yq _ (yq _ q);have d:((s.heap.push { cls:=.type "tuple",data:=.seq us.toArray }).push { cls:=.ref C,data:=.fields (xfs s.heap.objs.size) }).get? (s.heap.objs.size+1)=some ⟨.ref C,none,.fields (xfs s.heap.objs.size),#[]⟩:=km (by rw[YQ]) rfl;have g:=I.laid (a:=s.heap.objs.size+1) (o:=XN (s.heap.objs.size+1) C none) (t':=s.toks) J (xN _) (XN.ok d);have m:Vals (V.ref (s.heap.objs.size+1)::vs) (Value.ref (s.heap.objs.size+1)::us):=.cons rfl r
 have hl:(Value.ref (s.heap.objs.size+1)::us++[]).length=ps.length:=by
  have q:=m.length;rw[F.len _ _ _ _ l] at q;rw[Yt];show q.symm
 have j:us.length<=sizeLine:=by rw[<- r.length];show Ym (qk i)
 show xcall I.kIn M.at_ M.init M.fn j (YZ (YN (F.run _ X.stack _ _ ⟨Value.ref (s.heap.objs.size+1)::us,[]⟩ (Value.ref (s.heap.objs.size+1)::us) _ _ E (y.make C us [])
  (g.env0.make C us []) (by have z:=hb _ (Value.ref (s.heap.objs.size+1)::us) g.kIn hl;rw[Yt] at z;show z) m l) λr s' c=>?_))
 cases r with
 | error e=>show B pins σ _ _ e s' g c
 | ok fl =>
  cases fl with
  | ret u =>
   obtain⟨v,H',p,G,t,D⟩:=g.after c;subst t;show⟨G,⟨V.ref (s.heap.objs.size+1),H',p,rfl,D⟩⟩
  | next=>show False.elim c
  | brk=>show False.elim c
  | cont=>show False.elim c
theorem pe_xmake(M:XMk X.K C f)(F:FnOk X.prog X.w X.K X.mg X.base CX k f fd ps sp)(l:Room (k+1) X.A)(i:Gl X x)(j:X.mg x=some (.ref C))(hb:Binds X.K fd ps [])(m:zR CX X E)
  (d:PA X (e::es) t) (a:(x==("__debug__":Str))=false:=by decide) (g:starEach (e::es) X.env=(false,eval e X.env)::starEach es X.env:=by rfl) (b:(backTo pos (starEach es X.env)).any (·.1)=false:=by rfl) :
  PE X (.Call (.Name x p) (e::es) [] pos) (qcR C sp E t):=by
 intro pins s σ H Q I h;show Yr (zm I i j ?_ a);show YF (h₀:=X.base) I.ok.mod.kin M.kp (thn (d pos pins s σ H _ I h) λus o ⟨vs,n,c,r,z,q⟩=>⟨c.kIn,?_⟩) g b;show qcS M F l hb m c r z q
theorem pe_xmake0(M:XMk X.K C f)(F:FnOk X.prog X.w X.K X.mg X.base CX k f fd ps sp)(d:Room (k+1) X.A)(b:Gl X x)(c:X.mg x=some (.ref C))(hb:Binds X.K fd ps [])(e:zR CX X E)
  (a:(x==("__debug__":Str))=false:=by decide):PE X (.Call (.Name x p) [] [] pos) (qcR C sp E qc7):=by
 intro pins s σ H Q I h;show Yr (zm I b c ?_ a);show XU I.kIn M.kp (qcS (us:=[]) M F d hb e I .nil h.1 h.2)
structure CMeth(K:yf)(C:Addr)(m:Str)(f:Addr):Prop where
 rd:PySem.W.readsIn K C (.type "type")=true
 at_:PySem.W.findCls K (.ref C) (.type "type") m=some (.val (.ref f))
 ga:PySem.W.specialIn K (.ref C) "__getattribute__"=some (some (.builtin "type.__getattribute__"))
 kp:PySem.W.keepIn K (.ref f)=true
theorem pe_clsm(M:CMeth X.K C m f)(F:FnOk X.prog X.w X.K X.mg X.base CX k f fd ps sp)(l:Room k X.A)(i:Gl X x)(j:X.mg x=some (.ref C))(hb:Binds X.K fd ps [])(o:zR CX X E)(g:PA X (e::es) t)
  (a:(x==("__debug__":Str))=false:=by decide) (c:starEach (e::es) X.env=(false,eval e X.env)::starEach es X.env:=by rfl) (b:(backTo pos (starEach es X.env)).any (·.1)=false:=by rfl)
  (n:eval (.Call (.Attribute (.Name x p) m apos) (e::es) [] pos) X.env=(do
   let ov <- eval (.Name x p) X.env
   standAt apos.atName
   let (f,first) <- holding [ov] (getMethod ov m pl)
   callWith pos f first (backTo pos (starEach (e::es) X.env)) (backToKw pos (keywordEach [] X.env))):=by rfl) :
  PE X (.Call (.Attribute (.Name x p) m apos) (e::es) [] pos) (qd8 sp [] E t):=by
 intro pins s σ H Q I h;show YL (pl:=pl) (zm I i j ?_ a) n;show PySem.W.method_cls I.kIn M.ga (PySem.W.cls_value I.kIn M.rd M.at_ rfl ?_);show YF (first:=[]) (h₀:=X.base) I.ok.mod.kin M.kp (thn (g pos pins _ σ H _ (I.tok (s.toks+1)) h) λus v ⟨vs,u,d,r,q⟩=>⟨d.kIn,?_⟩) c b;show qdE F l hb .nil o d r q
end
def qfy(K:yf)(t:TA):TE:=fun σ H Q=>t σ H λvs b=>∃ a C y,vs=[.ref a,y]/\b a=some (XN a C none)/\XAt K C/\Q .non b
theorem ve_type:PySem.W.Looks M h (typeOf (.type "ValueError")) (.type "type"):=PySem.W.Looks.of_pure (by kernel_rfl)
theorem ve_opaque:PySem.W.Looks M h (opaqueClassAbove (.type "ValueError")) none:=PySem.W.Looks.of_pure (by kernel_rfl)
structure VInit(K:yf):Prop where
 ga:PySem.W.findIn K (.type "type") "__getattribute__"=some (some (.builtin "type.__getattribute__"))
 su:PySem.W.subIn K (.type "type") (.type "type")=some true
 at_:PySem.W.findCls K (.type "ValueError") (.type "type") "__init__"=some (.val (.builtin "ValueError.__init__"))
section
variable{X:Cx}{p pos apos:Pos}{e:Expr}{es:List Expr}{t:TA}{K:yf}
theorem k_vinit(E:X.K=K)(V:VInit K)(G:Gl X "ValueError")(L:X.mg "ValueError"=none)(hv:bootBuiltins "ValueError"=some (.type "ValueError"))(F:PA X (e::es) t)
  (l:starEach (e::es) X.env=(false,eval e X.env)::starEach es X.env:=by rfl) (j:(backTo pos (starEach es X.env)).any (·.1)=false:=by rfl)
  (M:eval (.Call (.Attribute (.Name "ValueError" p) "__init__" apos) (e::es) [] pos) X.env=(do
   let ov <- eval (.Name "ValueError" p) X.env
   standAt apos.atName
   let (f,first) <- holding [ov] (getMethod ov "__init__" pl)
   callWith pos f first (backTo pos (starEach (e::es) X.env)) (backToKw pos (keywordEach [] X.env))):=by rfl) :
  PE X (.Call (.Attribute (.Name "ValueError" p) "__init__" apos) (e::es) [] pos) (qfy K t):=by
 subst E;intro pins s σ H Q I h;show YL (pl:=pl) (qcw I G L hv ?_) M
 have i:∀{d:Value×List Value->Shared->Prop},d (.builtin "ValueError.__init__",[]) { s with toks:=s.toks+1 }->wpAny (model X.prog X.w) X.A (getMethod (.type "ValueError") "__init__" pl) d X.xe s:=λ{d} q=>by
  unfold getMethod;show yp ((ve_type.andThen (Yq I.kIn V.ga)).here ?_);dsimp only;rw[yB PySem.W.canon_tga];show yp (PySem.W.cls_open (hook:=none) I.kIn ve_opaque ve_type V.ga (PySem.W.Looks.now) V.su V.at_ (yu ?_));show wpAny _ _ (handedOut _) _ _ _;show PySem.W.handed_on rfl (yu q)
 show i ?_;have r:=F pos pins _ σ H _ (I.tok (s.toks+1)) h;rw[l] at r ⊢;show Xh (by show(false||(backTo pos (starEach es X.env)).any (·.1))=false;rw[j]<;>rfl) (Calls.evalArgs_plain ?_);show thn r λus z ⟨vs,m,b,O,a,C,y,B,g,c,q⟩=>?_;subst B;obtain⟨u,v,rfl,P,S⟩:=qep O;cases P;obtain⟨⟨a0,N⟩,_⟩:=(show ObjOk X.prog X.w m z.heap a (XN a C none) from b.hok a _ g);show xbase_init b.kIn N c λh' R n D=>?_;have J:=b.write (x:=a) (e:=a) (o:=XN a C none) (t':=z.toks) (by rw[g];show Yp) (.inl rfl) D ⟨_,n⟩ (XN.ok n);rw[upd_id g] at J;show⟨.non,m,J,rfl,q⟩
end
structure Keep(fs zs:LX)(h h':Heap):Prop where
 keep:∀ b o,h.get? b=some o->b∉zs->b∉fs->h'.get? b=some o
 slot:∀ b o,h.get? b=some o->b∉zs->b∈fs->∃ sl,h'.get? b=some { o with slots:=sl }
structure Trc(h:Heap)(e:Addr)(C:Value)(dx:Option Addr)(T:Addr)(fl:Value):Prop where
 ex:∃ vs,h.get? e=some ⟨C,dx,.fields vs,#[]⟩/\vs[1]?=some (.ref T)/\vs[2]?=some .none
 tb:∃ ts,h.get? T=some ⟨.type "traceback",none,.fields ts,#[]⟩/\ts[3]?=some fl
 ne:T≠e
section
variable{M:Model}{A:Around}{E:Value->Shared->Prop}{s:Shared}{base:Heap}{env:Env}{outer:List Env}{L e:Addr}{C:Value}{dx:Option Addr}{vs:Array Value}
theorem qfz{d:Value}{p:Bool}{Q:Unit->Shared->Prop}(r:A.frames=some (env::outer))(hl:s.heap.FunFrames base (env::outer))(F:env.frame=some L)(w:s.heap.get? e=some ⟨C,dx,.fields vs,#[]⟩)(hsz:1<vs.size)(B:vs[2]?=some .none)
  (h:∀ h' T,s.heap.objs.size<=T->Trc h' e C dx T (rawInt L)->Keep (frs (env::outer)) [e] s.heap h'->Q () { s with heap:=h' }) :
  wpAny M A (do let a <- frameOf env;let pl <- entryPlaceOf L p;let b <- EntryCells.newEntry d a .none (rawInt L) .none pl;setField (.ref e) 1 b) Q E s:=by
 have l:e∉frs (env::outer):=λG=>by
  obtain⟨_,o,y,t⟩:=hl.mem G;rw[w] at y;cases y;show t vs rfl
 show yp (wpAny_frameOf_fun r hl F λc n=>yp (wpAny_entryPlaceOf λpl m=>?_));unfold EntryCells.newEntry newFields;show yp (xr ?_ (m.sizeOk5 _ _ _ _ _));have i:c.get? e=some ⟨C,dx,.fields vs,#[]⟩:=(n.2.1 e l).trans w;generalize u:([d,.ref L,.none,rawInt L,.none]++(if pl.isEmpty then List.replicate 6 Value.none else pl)).toArray=v;have D:v[3]?=some (rawInt L):=by rw[<- u];first | (simp;done) | (rcases m with rfl | ⟨_,_,_,_,_,_,_,rfl⟩<;>simp)
 have j:=yq (h:=c) { cls:=.type "traceback",dict:=none,data:=.fields v } i;have g:c.objs.size≠e:=Xe (yy i);show wpAny_setField j rfl hsz (h _ c.objs.size (XY n.1.symm) ⟨⟨vs.setIfInBounds 1 (.ref c.objs.size),?_,by simp[hsz],by rw[Array.getElem?_setIfInBounds_ne (by decide)];show B⟩,⟨v,?_,D⟩,g⟩ ⟨λb o q hb x=>?_,λb o q hb x=>?_⟩)
 .rw [xl _ j rfl];rfl
 .rw [Yg _ _ (YW g)];show yI c rfl
 .have f:b≠e:=λz=>hb (by simp[z]);rw[Yg _ _ (YW f)];show yq _ ((n.2.1 b x).trans q)
 .have f:b≠e:=λz=>hb (by simp[z]);obtain⟨H,z⟩:=n.2.2 b o q;show⟨H,by rw[Yg _ _ (YW f)];show yq _ z⟩
theorem qbH{Q:Unit->Shared->Prop}(a:A.frames=some (env::outer))(hl:s.heap.FunFrames base (env::outer))(c:env.frame=some L)(b:s.heap.get? e=some ⟨C,dx,.fields vs,#[]⟩)(h1:vs[1]?=some .none)(d:vs[2]?=some .none)
  (h:∀ h' T,s.heap.objs.size<=T->Trc h' e C dx T (rawInt L)->Keep (frs (env::outer)) [e] s.heap h'->Q () { s with heap:=h' }):wpAny M A (noteFrame (.ref e) env) Q E s:=by
 unfold noteFrame;simp only[c];show yp (Xb b rfl h1 ?_);rw[yw (by decide)];show qfz a hl c b (xk.mp h1).1 d h
theorem qce{T:Addr}{Q:Unit->Shared->Prop}(f:A.frames=some (env::outer))(hl:s.heap.FunFrames base (env::outer))(p:env.frame=some L)(t:Trc s.heap e C dx T .none)
  (h:∀ h' c,s.heap.objs.size<=c->Trc h' e C dx c (rawInt L)->Keep (frs (env::outer)) [e,T] s.heap h'->Q () { s with heap:=h' }):wpAny M A (noteFrame (.ref e) env) Q E s:=by
 obtain⟨⟨vs,n,h1,r⟩,⟨v,d,m⟩,i⟩:=t;unfold noteFrame;simp only[p];show yp (Xb n rfl h1 ?_);rw[yB (show(Value.ref T != Value.none)=true from by simp)];show yp (Xb d rfl m ?_);rw[yw (show ¬ ((Value.none==rawInt L)=true) from by simp[rawInt])];show yp (wpAny_setField d rfl (xk.mp m).1 ?_);have other:∀ b,b≠T->(s.heap.update T (Obj.mapFields (·.setIfInBounds 3 Value.none))).get? b=s.heap.get? b:=λb hb=>Yg _ _ (YW hb);have l:(s.heap.update T (Obj.mapFields (·.setIfInBounds 3 Value.none))).objs.size=s.heap.objs.size:=Heap.size_after_update ..;show qfz (s:={ s with heap:=s.heap.update T (Obj.mapFields (·.setIfInBounds 3 Value.none)) }) f (hl.of_keeps λb o hb j=>?_) p ((other e (YW i)).trans n) (xk.mp h1).1 r λh' c u t' k=>?_
 .have a:b≠T:=λq=>by rw[q,d] at hb;cases hb;show j v rfl
  show⟨o,(other b a).trans hb,rfl⟩
 .show h h' c (by rw[<- l];show u) t' ⟨λb o q hb g=>?_,λb o q hb g=>?_⟩
  .have a:b≠T:=λz=>hb (by simp[z]);show k.keep b o ((other b a).trans q) (λz=>hb (by simp only[yA] at z;simp[z])) g
  .have a:b≠T:=λz=>hb (by simp[z]);show k.slot b o ((other b a).trans q) (λz=>hb (by simp only[yA] at z;simp[z])) g
theorem qaz{T:Addr}{Q:Unit->Shared->Prop}(t:Trc s.heap e C dx T fl)(h:∀ h',Trc h' e C dx T .none->(∀ b o,b≠T->s.heap.get? b=some o->h'.get? b=some o)->h'.objs.size=s.heap.objs.size->Q () { s with heap:=h' }) :
  wpAny M A (setFlight (.ref e) none) Q E s:=by
 obtain⟨⟨vs,f,h1,i⟩,⟨g,d,j⟩,c⟩:=t;have a:3<g.size:=(xk.mp j).1;unfold setFlight;show yp (Xb f rfl h1 ?_);rw[yB (show(Value.ref T != Value.none)=true from by simp)];show wpAny_setField d rfl a (h _ ⟨⟨vs,?_,h1,i⟩,⟨g.setIfInBounds 3 .none,?_,by simp[a]⟩,c⟩ (λb o hb q=>?_) (Heap.size_after_update ..))
 .rw [Yg _ _ c];show f
 .rw [xl _ d rfl];rfl
 .rw [Yg _ _ (YW hb)];show q
end
def CX1(P:Program)(w:World):CXT:=λb H s E c s'=>∃(a C:Addr) (dx:Option Addr) (T:Addr) (H':Hp),c=.ref a/\s'.os=s.os/\AllBare s'.gens/\Un (frs b) [] H H' s.heap s'.heap/\HOk P w H' s'.heap /\
 H' a=some (XO a C dx)/\Trc s'.heap a (.ref C) dx T .none/\s.heap.objs.size<=T/\H' T=none/\E (.ref C) dx H'
section
variable{X:Cx}{pins:List (Addr×Obj)}{σ:St}{H:Hp}{s:Shared}
theorem qaT{T:Addr}(I:Inv X pins σ H s)(f:H a=some (XO a C dx))(k:Keep (frs X.stack) zs s.heap h')(g:∀ b∈zs,b=a\/H b=none)(t:Trc h' a (.ref C) dx T fl):HOk X.prog X.w H h':=λb u e=>by
 by_cases hb:b=a
 .subst hb;rw[f] at e;cases e;obtain⟨vs,q,_⟩:=t.ex;show XO.ok q
 .have d:∀ c o,H c=some o->c≠a->c∉zs/\c∉frs X.stack:=λc o q n=>⟨λz=>(g c z).elim n λy=>(by rw[y] at q;cases q),λz=>(by have y:=I.stkFree c z;rw[y] at q;cases q)⟩;show(I.hok b u e).stay (λc v hc r=>?_) (λ_ q=>q) λ_ _ q=>q;rcases hc with rfl | hc
  .show k.keep c v r (d c _ e hb).1 (d c _ e hb).2
  .have n:c≠a:=λz=>by rw[z,f] at hc;cases hc
   show k.keep c v r (d c _ hc n).1 (d c _ hc n).2
theorem qdP{T:Addr}(I:Inv X pins σ H s)(h:X.ex=[])(r:H a=some (XO a C dx))(k:Keep (frs X.stack) zs s.heap h')(u:∀ b∈zs,b=a\/X.s₀.heap.objs.size<=b)(t:Trc h' a (.ref C) dx T fl) :
  Un X.fs [] X.H₀ H X.s₀.heap h':=by
 have B:=I.base;rw[h] at B;have i:∀ b o,X.s₀.heap.get? b=some o->b≠X.env.locals:=λb o e=>yG (yi (yy e) I.ok.above);have l:∀ b o,X.s₀.heap.get? b=some o->b≠a->b∉zs:=λb o e n z=>(u b z).elim n λy=>absurd (yi (yy e) y) (yU _);have p:∀ b,H b=none->b≠a:=λb n z=>by rw[z,r] at n;cases n
 have j:∀ b o,X.s₀.heap.get? b=some o->b∉X.fs->b∉frs X.stack:=λb o e n z=>(yt.mp (I.stkSub b z)).elim (i b o e) n;show⟨λb o e n hb c=>?_,λb o e n hb c=>?_,B.free,λb o e c=>?_,B.tups,B.frzs,B.tbls⟩
 .show k.keep b o (B.keep b o e n hb c) (l b o e (p b (B.free b o e n c))) (j b o e hb)
 .obtain⟨w,q⟩:=B.slot b o e n hb c;have g:=l b o e (p b (B.free b o e n c));by_cases d:b∈frs X.stack
  .obtain⟨f,m⟩:=k.slot b _ q g d;show⟨f,m⟩
  .show⟨w,k.keep b _ q g d⟩
 .obtain⟨v,q⟩:=B.there b o e c;by_cases hb:b=a
  .subst hb;obtain⟨vs,z,_⟩:=t.ex;show⟨_,z⟩
  .have g:=l b o e hb;by_cases d:b∈frs X.stack
   .obtain⟨f,m⟩:=k.slot b _ q g d;show⟨_,m⟩
   .show⟨v,k.keep b _ q g d⟩
end
structure XOk(X:Cx)(EK:St->XK):Prop where
 pass:∀(pins:List (Addr×Obj)) (σ:St) (H:Hp) (s:Shared) (e:Value) (s':Shared),Inv X pins σ H s->CX1 X.prog X.w X.stack H s (EK σ) e s'->X.xe e s'
 rais:∀(pins:List (Addr×Obj)) (σ:St) (H:Hp) (s:Shared) (a C:Addr) (dx:Option Addr),Inv X pins σ H s->H a=some (XN a C dx)->EK σ (.ref C) dx (upd H a (XO a C dx))->X.xe (.ref a) s
 calm:X.calm=true
section
variable{P:Program}{w:World}{K:yf}{mg:Str->Option Value}{base:Heap}{N:LN}{qual:Str}{scope:Scope}{f:Addr}{cd:Value}{A:Around}{outer:List Env}{s0:Shared}{H0:Hp}{E:XK}
theorem qp:XOk (qe7 (CX1 P w) P w K mg base N qual scope f cd A outer s0 H0 E) λ_=>E where
 calm:=rfl
 pass:=by
  intro pins σ H s O s' I m;obtain⟨a,C,dx,T,H',rfl,D,l,un,B,g,t,M,v,q⟩:=m;have J:=I.call' (s':=s') (H':=H') (ch:=[]) D un B l (λb z=>absurd z (by simp));show wpAny _ _ (leaving _ _) _ _ _;unfold leaving;show yp (qce (base:=base) J.ok.frames J.stack rfl t λh' d h t' k=>?_);show qaz (s:={ s' with heap:=h' }) t' λu i p L=>?_;have F:s0.heap.objs.size<=s.heap.objs.size:=I.sz;have j:=J.sz
  have r:Keep (frs (envOfC qual scope s0.heap.objs.size f cd::outer)) [a,T,d] s'.heap u:=by
   show⟨λb o e z n=>?_,λb o e z n=>?_⟩
   .simp only[yt,yv,yN,kH] at z;show p b o z.2.2 (k.keep b o e (by simp[z.1,z.2.1]) n)
   .simp only[yt,yv,yN,kH] at z;obtain⟨G,y⟩:=k.slot b o e (by simp[z.1,z.2.1]) n;show⟨G,p b _ z.2.2 y⟩
  have c:H' d=none:=J.hok.fresh h;show⟨a,C,dx,d,H',rfl,J.os,l,qdP J rfl g r (λb hb=>?_) i,qaT J g r (λb hb=>?_) i,g,i,yh j h,c,q⟩
  .simp only[yt,yv,yN] at hb;rcases hb with rfl | rfl | rfl
   .show .inl rfl
   .show .inr (yh F M)
   .show .inr (yh j h)
  .simp only[yt,yv,yN] at hb;rcases hb with rfl | rfl | rfl
   .show .inl rfl
   .show .inr v
   .show .inr c
 rais:=by
  intro pins σ H s a C dx I e q;obtain⟨⟨a0,m⟩,_⟩:=(show ObjOk _ _ H s.heap a (XN a C dx) from I.hok a _ e);have J:Inv _ pins σ (upd H a (XO a C dx)) s:=I.write (x:=a) (e:=a) (o:=XO a C dx) (h':=s.heap) (t':=s.toks) (by rw[e];show Yp) (.inl rfl) (λ_ _ _ q=>q) ⟨_,m⟩ (XO.ok m);show wpAny _ _ (leaving _ _) _ _ _;unfold leaving;show yp (qbH (base:=base) J.ok.frames J.stack rfl m rfl rfl λh' d h t' k=>?_);show qaz (s:={ s with heap:=h' }) t' λu i p L=>?_;have j:=J.sz;have g:upd H a (XO a C dx) a=some (XO a C dx):=qc
  have r:Keep (frs (envOfC qual scope s0.heap.objs.size f cd::outer)) [a,d] s.heap u:=by
   show⟨λb o e z n=>?_,λb o e z n=>?_⟩
   .simp only[yt,yv,yN,kH] at z;show p b o z.2 (k.keep b o e (by simp[z.1]) n)
   .simp only[yt,yv,yN,kH] at z;obtain⟨G,y⟩:=k.slot b o e (by simp[z.1]) n;show⟨G,p b _ z.2 y⟩
  have c:upd H a (XO a C dx) d=none:=J.hok.fresh h;show⟨a,C,dx,d,_,rfl,J.os,J.bare,qdP J rfl g r (λb hb=>?_) i,qaT J g r (λb hb=>?_) i,g,i,yh j h,c,q⟩
  .simp only[yt,yv,yN] at hb;rcases hb with rfl | rfl
   .show .inl rfl
   .show .inr (yh j h)
  .simp only[yt,yv,yN] at hb;rcases hb with rfl | rfl
   .show .inl rfl
   .show .inr c
end
def qfA(K:yf)(c:St->XK)(te:TE):TS:=λ_ σ H=>te σ H λx b=>∃ a C dx,x=.ref a/\b a=some (XN a C dx)/\XAt K C/\c σ (.ref C) dx (upd b a (XO a C dx))
section
variable{X:Cx}{EK:St->XK}{e:Expr}{te:TE}{pos:Pos}{K:yf}
theorem xraise{x:Sem Value}{Q:Flow->Shared->Prop}(p:A.handled=none)
  (h:wpAny M A x (λv b=>∃ a C dx a0,v=.ref a/\K.In b.heap/\XAt K C/\b.heap.get? a=some ⟨.ref C,dx,.fields (xfs a0),#[]⟩/\E (.ref a) b) E s):wpAny M A (raiseStmt env (some x) none) Q E s:=by
 unfold raiseStmt;show yp (Yd h (λv b h1=>?_) λ_ _ z=>z);obtain⟨a,C,dx,a0,rfl,f,c,o,n⟩:=h1;obtain⟨H,J,N,bs,l,j,sn,r,t,m,u,y,B,D,F,G,i,q⟩:=qdM f c.xc;have e:(Value.ref C::l).contains (.type "BaseException")=true:=by rw[yW,qaS q (by simp),kc]
 obtain⟨w,g,d,tk,I⟩:=b
 repeat (first | with_reducible show Yl o ?_ | with_reducible show Yl i ?_ | (with_reducible show YU i ?_;rw[e]) | wp_step)
 show wpAny_raiseNew_none p n
theorem qO(l:X.K=K)(f:XOk X EK)(m:PE X e te):PS X (.Raise (some e) none pos) (qfA K EK te):=by
 subst l;intro pins s σ H D I h;rw[arm_exec_Raise];show yp (xG (xraise (K:=X.K) (I.ok.hd f.calm) ?_));show yp (thn (m pins s σ H _ I h) λv i ⟨x,d,b,o,a,C,dx,j,g,c,q⟩=>yp (xG (yu ?_)));subst j;cases o;obtain⟨⟨a0,n⟩,_⟩:=(show ObjOk _ _ d i.heap a (XN a C dx) from b.hok a _ g);show⟨a,C,dx,a0,rfl,b.kIn,c,n,f.rais pins σ d i a C dx b g q⟩
end
def qfB(sp:Sp)(a:St->XK)(t:TA):TE:=fun σ H Q=>t σ H λvs b=>sp vs b Q (a σ)
def qeE(C:Addr)(m:Str)(sp:Sp)(b:St->XK)(d:TE)(t:TA):TE:=fun σ H Q=>d σ H λx a=>MeR C m x a (t σ a λvs c=>sp (x::vs) c Q (b σ))
def qfC(C:Addr)(sp:Sp)(b:St->XK)(t:TA):TE:=fun σ H Q=>t σ H λvs a=>∀ x dx,a x=none->a dx=none->dx≠x ->
 sp (.ref x::vs) (upd (upd a dx (.own x)) x (.ins C dx [])) (λv c=>v=.non/\Q (.ref x) c) (b σ)
theorem FnOk.quiet{K:yf}{k:Nat}(F:FnOk P w K mg base (CX1 P w) k f fd ps sp) :
  wqY k f fd ps (λvs H Q _=>sp vs H Q E0):=by
 show⟨λvs H Q E h=>F.len vs H Q E0 h,λA a s H args us vs Q E c b hb hv d=>YN (F.run A a s H args us vs Q E0 c b hb hv d) λr s' q=>?_⟩
 cases r with
 | ok fl=>cases fl<;>show q
 | error e =>
  obtain⟨_,_,_,_,_,_,_,_,_,_,_,_,_,_,z⟩:=q;show z.elim
theorem FnOk.any{K:yf}{k:Nat}{CX:CXT}(F:wqY k f fd ps sp):FnOk P w K mg base CX k f fd ps sp:=by
 show⟨F.len,λA a s H args us vs Q E c b hb hv d=>YN (F.run A a s H args us vs Q E c b hb hv d) λr s' q=>?_⟩
 cases r with
 | ok fl=>cases fl<;>show q
 | error e=>show q.elim
structure MethOk(P:Program)(w:World)(K:yf)(mg:Str->Option Value)(base:Heap)(CX:CXT)(k:Nat)(C:Addr)(m:Str)(ps:LN)(sp:Sp):Prop where
 ex:∃ f fd,FnOk P w K mg base CX k f fd ps sp/\Meth K C m f/\Binds K fd ps []
 cl:Cls K C
structure MakeOk(P:Program)(w:World)(K:yf)(mg:Str->Option Value)(base:Heap)(CX:CXT)(k:Nat)(C:Addr)(x:Str)(ps:LN)(sp:Sp):Prop where
 ex:∃ f fd,FnOk P w K mg base CX k f fd ps sp/\Mk K C f/\Binds K fd ps []
 mg_:mg x=some (.ref C)
structure XMakeOk(P:Program)(w:World)(K:yf)(mg:Str->Option Value)(base:Heap)(k:Nat)(C:Addr)(x:Str)(ps:LN)(sp:Sp):Prop where
 ex:∃ f fd,wqY k f fd ps sp/\XMk K C f/\Binds K fd ps []
 mg_:mg x=some (.ref C)
section
variable{X:Cx}{EK:St->XK}{k:Nat}{f C:Addr}{fd:FuncData}{ps:LN}{sp:Sp}{x m:Str}{p pos apos:Pos}{e o:Expr}{es:List Expr}{ta:TE}{t:TA}
theorem qdi{Q:VK}(F:FnOk X.prog X.w X.K X.mg X.base (CX1 X.prog X.w) k f fd ps sp)(d:Room k X.A)(hb:Binds X.K fd ps [])(c:XOk X EK)
  (I:Inv X pins σ H s) (r:Vals vs us) (h:sp vs H Q (EK σ)):wpAny (model X.prog X.w) X.A (call (.ref f) us) (EP X pins σ Q) X.xe s:=by
 have hl:(us++[]).length=ps.length:=by rw[Yt,<- r.length];show F.len _ _ _ _ h
 have b:=hb s us I.kIn hl;rw[Yt] at b;show YZ (YN (F.run X.A X.stack s H ⟨us,[]⟩ us vs Q (EK σ) d I.env0 b r h) λr s' a=>?_)
 cases r with
 | error e=>show c.pass pins σ H s e s' I a
 | ok fl =>
  cases fl with
  | ret u=>show I.after a
  | _=>show False.elim a
theorem zD(D:DefOk X.prog X.w X.K X.mg X.base (CX1 X.prog X.w) k x ps sp)(n:Room k X.A)(d:XOk X EK)(g:PA X (e::es) t)(j:Gl X x:=by rfl)(a:(x==("__debug__":Str))=false:=by decide)
  (i:starEach (e::es) X.env=(false,eval e X.env)::starEach es X.env:=by rfl) (b:(backTo pos (starEach es X.env)).any (·.1)=false:=by rfl):PE X (.Call (.Name x p) (e::es) [] pos) (qfB sp EK t):=by
 obtain⟨f,fd,F,m,l,hb⟩:=D.ex;intro pins s σ H Q I h;show Yr (zm I j m ?_ a);show YF (h₀:=X.base) I.ok.mod.kin l (thn (g pos pins s σ H _ I h) λus u ⟨vs,o,c,r,q⟩=>⟨c.kIn,?_⟩) i b;show qdi F n hb d c r q
theorem zE(D:MethOk X.prog X.w X.K X.mg X.base (CX1 X.prog X.w) k C m ps sp)(B:Room k X.A)(n:XOk X EK)(z:PE X o ta)(y:PA X (e::es) t)
  (c:starEach (e::es) X.env=(false,eval e X.env)::starEach es X.env:=by rfl) (b:(backTo pos (starEach es X.env)).any (·.1)=false:=by rfl)
  (E:eval (.Call (.Attribute o m apos) (e::es) [] pos) X.env=(do
   let ov <- eval o X.env
   standAt apos.atName
   let (f,first) <- holding [ov] (getMethod ov m pl)
   callWith pos f first (backTo pos (starEach (e::es) X.env)) (backToKw pos (keywordEach [] X.env))):=by rfl) :
  PE X (.Call (.Attribute o m apos) (e::es) [] pos) (qeE C m sp EK ta t):=by
 obtain⟨f,fd,F,i,hb⟩:=D.ex;intro pins s σ H Q I h;show YL (pl:=pl) (thn (z pins s σ H _ I h) λu L ⟨x,j,d,J,a,dx,fs,v,p,l,q⟩=>?_) E;subst v;obtain rfl:u=Value.ref a:=J;show qak d p D.cl i l ?_;show YF (first:=[.ref a]) (h₀:=X.base) I.ok.mod.kin i.kp (thn (y pos pins L σ j _ d q) λus N ⟨vs,M,g,r,G⟩=>⟨g.kIn,?_⟩) c b;show qdi (us:=.ref a::us) (vs:=.ref a::vs) F B hb n g (.cons rfl r) G
theorem pe_meth0S(D:MethOk X.prog X.w X.K X.mg X.base (CX1 X.prog X.w) k C m ps sp)(j:Room k X.A)(d:XOk X EK)(i:PE X o ta)
  (n:eval (.Call (.Attribute o m apos) [] [] pos) X.env=(do
   let ov <- eval o X.env
   standAt apos.atName
   let (f,first) <- holding [ov] (getMethod ov m pl)
   callWith pos f first (backTo pos (starEach [] X.env)) (backToKw pos (keywordEach [] X.env))):=by rfl) :
  PE X (.Call (.Attribute o m apos) [] [] pos) (qeE C m sp EK ta qc7):=by
 obtain⟨f,fd,F,c,hb⟩:=D.ex;intro pins s σ H Q I h;show YL (pl:=pl) (thn (i pins s σ H _ I h) λu t ⟨x,r,b,p,a,dx,fs,g,e,l,q⟩=>?_) n;subst g;obtain rfl:u=Value.ref a:=p;show qak b e D.cl c l ?_;show XU (first:=[.ref a]) b.kIn c.kp (qdi (us:=[.ref a]) (vs:=[.ref a]) F j hb d b (.cons rfl .nil) q)
theorem run_makeS{Q:VK}(M:Mk X.K C f)(F:FnOk X.prog X.w X.K X.mg X.base (CX1 X.prog X.w) k f fd ps sp)(n:Room (k+1) X.A)(hb:Binds X.K fd ps [])(l:XOk X EK)
  (I:Inv X pins σ H s) (r:Vals vs us) (h:∀ x dx,H x=none->H dx=none->dx≠x->sp (.ref x::vs) (upd (upd H dx (.own x)) x (.ins C dx [])) (λv i=>v=.non/\Q (.ref x) i) (EK σ)) :
  wpAny (model X.prog X.w) X.A (call (.ref C) us) (EP X pins σ Q) X.xe s:=by
 have d:=h (s.heap.objs.size+1) s.heap.objs.size (I.hok.fresh (xN _)) (I.hok.fresh (yg _)) (yG (Xv _));have c:=Inv.made (C:=C) I;have g:Vals (V.ref (s.heap.objs.size+1)::vs) (Value.ref (s.heap.objs.size+1)::us):=.cons rfl r
 have hl:(Value.ref (s.heap.objs.size+1)::us++[]).length=ps.length:=by
  have q:=g.length;rw[F.len _ _ _ _ d] at q;rw[Yt];show q.symm
 have b:=hb _ (Value.ref (s.heap.objs.size+1)::us) c.kIn hl;rw[Yt] at b;show YZ (qdD (f:=f) I.kIn M.makes M.init (yM.mp M.fn) (YN (F.run _ X.stack _ _ ⟨Value.ref (s.heap.objs.size+1)::us,[]⟩ (Value.ref (s.heap.objs.size+1)::us) _ _ (EK σ) (n.make C us [])
  (c.env0.make C us []) b g d) λr s' a=>?_))
 cases r with
 | error e=>show l.pass pins σ _ _ e s' c a
 | ok fl =>
  cases fl with
  | ret u =>
   obtain⟨v,H',j,p,m,o⟩:=c.after a;subst m;show⟨p,⟨V.ref (s.heap.objs.size+1),H',j,rfl,o⟩⟩
  | _=>show False.elim a
theorem qbn(D:MakeOk X.prog X.w X.K X.mg X.base (CX1 X.prog X.w) k C x ps sp)(l:Room (k+1) X.A)(d:XOk X EK)(g:PA X (e::es) t)(j:Gl X x:=by rfl)(a:(x==("__debug__":Str))=false:=by decide)
  (i:starEach (e::es) X.env=(false,eval e X.env)::starEach es X.env:=by rfl) (b:(backTo pos (starEach es X.env)).any (·.1)=false:=by rfl):PE X (.Call (.Name x p) (e::es) [] pos) (qfC C sp EK t):=by
 obtain⟨f,fd,F,M,hb⟩:=D.ex;intro pins s σ H Q I h;show Yr (zm I j D.mg_ ?_ a);show YF (h₀:=X.base) I.ok.mod.kin M.kp (thn (g pos pins s σ H _ I h) λus n ⟨vs,m,c,r,q⟩=>⟨c.kIn,?_⟩) i b;show run_makeS M F l hb d c r q
theorem zY(D:XMakeOk X.prog X.w X.K X.mg X.base k C x ps sp)(h:Room (k+1) X.A)(c:PA X (e::es) t)(g:Gl X x:=by rfl)(a:(x==("__debug__":Str))=false:=by decide)
  (d:starEach (e::es) X.env=(false,eval e X.env)::starEach es X.env:=by rfl) (b:(backTo pos (starEach es X.env)).any (·.1)=false:=by rfl):PE X (.Call (.Name x p) (e::es) [] pos) (qcR C sp E0 t):=by
 obtain⟨f,fd,F,M,hb⟩:=D.ex;show pe_xmake M F h g D.mg_ hb qN c a d b
theorem pe_xm0(D:XMakeOk X.prog X.w X.K X.mg X.base k C x ps sp)(c:Room (k+1) X.A)(b:Gl X x:=by rfl)(a:(x==("__debug__":Str))=false:=by decide):PE X (.Call (.Name x p) [] [] pos) (qcR C sp E0 qc7):=by
 obtain⟨f,fd,F,M,hb⟩:=D.ex;show pe_xmake0 M F c b D.mg_ hb qN a
theorem jo(D:MethOk X.prog X.w X.K X.mg X.base CX0 k C m ps sp)(h:Room k X.A)(d:PE X o ta)(c:PA X (e::es) t)
  (b:starEach (e::es) X.env=(false,eval e X.env)::starEach es X.env:=by rfl) (a:(backTo pos (starEach es X.env)).any (·.1)=false:=by rfl)
  (i:eval (.Call (.Attribute o m apos) (e::es) [] pos) X.env=(do
   let ov <- eval o X.env
   standAt apos.atName
   let (f,first) <- holding [ov] (getMethod ov m pl)
   callWith pos f first (backTo pos (starEach (e::es) X.env)) (backToKw pos (keywordEach [] X.env))):=by rfl) :
  PE X (.Call (.Attribute o m apos) (e::es) [] pos) (qeq C m sp [] E0 ta t):=by
 obtain⟨f,fd,F,g,hb⟩:=D.ex;show pe_meth (pl:=pl) d D.cl g F h hb .nil qN c b a i
theorem qv(D:MethOk X.prog X.w X.K X.mg X.base CX0 k C m ps sp)(c:Room k X.A)(a:PE X o ta)
  (d:eval (.Call (.Attribute o m apos) [] [] pos) X.env=(do
   let ov <- eval o X.env
   standAt apos.atName
   let (f,first) <- holding [ov] (getMethod ov m pl)
   callWith pos f first (backTo pos (starEach [] X.env)) (backToKw pos (keywordEach [] X.env))):=by rfl) :
  PE X (.Call (.Attribute o m apos) [] [] pos) (qeq C m sp [] E0 ta qc7):=by
 obtain⟨f,fd,F,b,hb⟩:=D.ex;show pe_meth0 (pl:=pl) a D.cl b F c hb .nil qN d
end
section
variable{P:Program}{w:World}{K:yf}{mg:Str->Option Value}{base:Heap}
theorem Fun.ok1{st:Stmt}{k:Nat}(F:Fun K x qual st f fd)(S:FnScope N ps (qd st))(len:∀ vs H Q E,sp vs H Q E->vs.length=ps.length)
  (c:∀(b:Value) (A:Around) (a:List Env) (s:Shared) (H:Hp) (vs:List V) (Q:VK) (E:XK),Room k (A.deeper (envOfC qual (qd st) s.heap.objs.size f b))->sp vs H Q E ->
   ∃ t,PSs (qe7 (CX1 P w) P w K mg base N qual (qd st) f b A a s H E) (jJ st) t/\t { nx:=λ_ H'=>Q .non H',rt:=Q } (jP N vs) H):FnOk P w K mg base (CX1 P w) (k+1) f fd ps sp:=by
 obtain⟨m,od,kV,g,n,l,b,ct,j,rfl,i,d⟩:=F.ex;show qgv i d S len λA a s H vs Q E h e=>c b A a s H vs Q E h e
end
abbrev Cx.tried(X:Cx)(pn:List (Addr×Obj))(E:Value->Shared->Prop):Cx:={ X with pn:=pn,xe:=E }
abbrev Cx.hand(X:Cx)(a:Addr):Cx:={ X with A:=X.A.mark (some (.ref a)),calm:=false,xe:=λ_ _=>False }
section
variable{X:Cx}{pins pins':List (Addr×Obj)}{σ:St}{H:Hp}{s:Shared}{E:Value->Shared->Prop}{a:Addr}
theorem Inv.tried(I:Inv X pins σ H s)(E:Value->Shared->Prop):Inv (X.tried (X.pn++pins) E) [] σ H s:=
 ⟨⟨I.ok.mod,I.ok.kind,I.ok.glob,I.ok.blt,I.ok.above,I.ok.inj,I.ok.has,I.ok.cab,I.ok.hd,I.ok.frames,I.ok.stk,I.ok.exf,I.ok.bs,I.ok.bsz,I.ok.noex,I.ok.exfs,I.ok.funs,I.ok.frf⟩,I.os,I.bare,I.base,I.loc,I.cell,I.free,I.freeC,
  λp a=>I.pin p (by have a:p∈(X.pn++pins)++[]:=a;rw[Yt] at a;show a),I.hok,I.len⟩
theorem Inv.untried(I:Inv (X.tried (X.pn++pins) E) pins' σ H s):Inv X pins σ H s:=
 ⟨⟨I.ok.mod,I.ok.kind,I.ok.glob,I.ok.blt,I.ok.above,I.ok.inj,I.ok.has,I.ok.cab,I.ok.hd,I.ok.frames,I.ok.stk,I.ok.exf,I.ok.bs,I.ok.bsz,I.ok.noex,I.ok.exfs,I.ok.funs,I.ok.frf⟩,I.os,I.bare,I.base,I.loc,I.cell,I.free,I.freeC,
  λp a=>I.pin p (YO _ a),I.hok,I.len⟩
theorem Inv.hand(I:Inv X pins σ H s)(a:Addr):Inv (X.hand a) pins σ H s:=
 ⟨⟨I.ok.mod,I.ok.kind,I.ok.glob,I.ok.blt,I.ok.above,I.ok.inj,I.ok.has,I.ok.cab,(λh=>nomatch h),I.ok.frames,I.ok.stk,I.ok.exf,I.ok.bs,I.ok.bsz,I.ok.noex,I.ok.exfs,I.ok.funs,I.ok.frf⟩,I.os,I.bare,I.base,I.loc,I.cell,I.free,I.freeC,I.pin,I.hok,I.len⟩
theorem Inv.unhand(hc:X.calm=true->X.A.handled=none)(I:Inv (X.hand a) pins σ H s):Inv X pins σ H s:=
 ⟨⟨I.ok.mod,I.ok.kind,I.ok.glob,I.ok.blt,I.ok.above,I.ok.inj,I.ok.has,I.ok.cab,hc,I.ok.frames,I.ok.stk,I.ok.exf,I.ok.bs,I.ok.bsz,I.ok.noex,I.ok.exfs,I.ok.funs,I.ok.frf⟩,I.os,I.bare,I.base,I.loc,I.cell,I.free,I.freeC,I.pin,I.hok,I.len⟩
structure Loose(X:Cx)(pins:List (Addr×Obj))(H:Hp)(T:Addr):Prop where
 hn:H T=none
 lo:X.s₀.heap.objs.size<=T
 nl:T≠X.env.locals
 nf:T∉X.fs
 nc:∀ x c,X.env.cells.lookup x=some c->c≠T
 np:∀ p∈X.pn++pins,p.1≠T
theorem Inv.loose(I:Inv X pins σ H s){T:Addr}(a:s.heap.objs.size<=T)(hn:H' T=none):Loose X pins H' T where
 hn:=hn
 lo:=yh I.sz a
 nl:=Xe (yi I.lt a)
 nf:=I.nofs a
 nc:=λx c e=>by
  obtain⟨v,o,b,_⟩:=I.cell x c e;show yG (yi (yy b) a)
 np:=λp d=>yG (yi (yy (I.pin p d).1) a)
theorem Inv.noted{T:Addr}(I:Inv X pins σ H s)(f:H a=some (XO a C dx))(k:Keep (frs X.stack) zs s.heap h')(h:∀ b∈zs,b=a\/Loose X pins H b)(t:Trc h' a (.ref C) dx T fl) :
  Inv X pins σ H { s with heap:=h' }:=by
 have j:=qaT I f k (λb hb=>(h b hb).imp (λe=>e) λl=>l.hn) t;have i:∀ b,H b=none->b∉zs.filter (λb=>decide (b≠a))->b∉zs:=λb n z y=>z (yn.mpr ⟨y,yL λe=>by rw[e,f] at n;cases n⟩);show I.call (g':=s.gens) (t':=s.toks) (d':=s.drawn) (ch:=zs.filter λb=>decide (b≠a)) ⟨λb o e n hb d=>k.keep b o e (i b n d) hb,λb o e n hb d=>k.slot b o e (i b n d) hb,λ_ _ _ n _=>n,λb o e d=>?_,λ_ _ e=>e,λ_ _ _ e=>e,
  λb ps e=>⟨#[],by rw[e];simp⟩⟩ j I.bare λb hb=>?_
 .by_cases c:b=a
  .subst c;obtain⟨vs,q,_⟩:=t.ex;show⟨_,q⟩
  .have z:b∉zs:=λy=>d (yn.mpr ⟨y,yL c⟩);by_cases g:b∈frs X.stack
   .obtain⟨m,q⟩:=k.slot b o e z g;show⟨_,q⟩
   .show⟨o,k.keep b o e z g⟩
 .obtain⟨y,q⟩:=yn.mp hb;rcases h b y with e | l
  .show absurd e (yj q)
  .show⟨.inr l.lo,l.nl,l.nc,l.np⟩
theorem unbind_ok{i:Nat}{Q:Unit->Shared->Prop}(I:Inv X pins σ H s)(K:X.N.Nodup)(B:X.N[i]?=some x)(f:X.env.scope.names.lookup x=some .local)(hv:σ[i]?=some (some v))
  (h:∀ s',Inv X pins (σ.set i none) H s'->Q () s'):wpAny M A (unbindName X.env x) Q E s:=by
 obtain⟨m,O,hl⟩:=id I.loc;obtain⟨u,ru,R⟩:=hl i x v B hv (.inl f)
 have L:m x=some u:=by
  rcases R with⟨_,e⟩ | ⟨k,_⟩
  .show e
  .have k':X.env.scope.names.lookup x=some .cell\/X.env.scope.names.lookup x=some .free:=k;rw[f] at k';rcases k' with z | z<;>cases z
 have r:(X.env.scope.kind==.class||(X.env.scope.kind==.module&&X.env.locals != X.env.globals))=false:=by rw[I.ok.kind];rfl
 show wpAny_unbindName_local f O L r λh' u' F g=>?_;have a:∀ b o,X.s₀.heap.get? b=some o->b≠X.env.locals:=λb o e=>yG (yi (yy e) I.ok.above);show h _ ⟨I.ok,I.os,I.bare,⟨λb o e n hb f=>?_,λb o e n hb f=>?_,I.base.free,λb o e f=>?_,I.base.tups,I.base.frzs,I.base.tbls⟩,⟨_,F,λj y v' l t J=>?_⟩,λy c e=>?_,I.free,I.freeC,λp P=>?_,λb W e=>?_,by simpa using I.len⟩
 .show(g.2 b (a b o e)).trans (I.base.keep b o e n hb f)
 .obtain⟨Z,l⟩:=I.base.slot b o e n hb f;show⟨Z,(g.2 b (a b o e)).trans l⟩
 .obtain⟨U,l⟩:=I.base.there b o e f;show⟨U,(g.2 b (a b o e)).trans l⟩
 .by_cases C:j=i
  .subst C;have D:j<σ.length:=by rw[I.len];show(yc.mp B).1
   rw[xE D] at t;cases t
  .rw [xM (YW C)] at t;obtain⟨w,Y,q⟩:=hl j y v' l t J;show⟨w,Y,?_⟩;rcases q with⟨k,e⟩ | ⟨k,c,e,z⟩
   .have T:y≠x:=λe=>C (qaG K l (e ▸ B));show .inl ⟨k,by simp[T,e]⟩
   .show .inr ⟨k,c,e,z.sameBut g (I.cne y c e)⟩
 .obtain⟨w,z⟩:=I.cell y c e;show⟨w,z.sameBut g (I.cne y c e)⟩
 .obtain⟨e,n,G,S,d⟩:=I.pin p P;show⟨(g.2 p.1 G).trans e,n,G,S,d⟩
 .show(I.hok b W e).stay (λc w hc q=>(g.2 c ?_).trans q) (λ_ q=>q) λ_ _ q=>q;rintro rfl;rcases hc with rfl | hc
  .rw [I.free] at e;cases e
  .rw [I.free] at hc;cases hc
end
structure Held(X:Cx)(pins:List (Addr×Obj))(H:Hp)(h:Heap)(a C:Addr)(dx:Option Addr):Prop where
 at_:H a=some (XO a C dx)
 tr:∃ T,Trc h a (.ref C) dx T .none/\Loose X pins H T
def PH(X:Cx)(a C:Addr)(dx:Option Addr)(b:List ExceptHandler)(c:TS):Prop:=
 ∀(pins:List (Addr×Obj)) (s:Shared) (σ:St) (H:Hp) (D:Ends),Inv X pins σ H s->Held X pins H s.heap a C dx->c D σ H->wpAny (model X.prog X.w) X.A (handleBy (.ref a) X.env b) (SP X pins D) X.xe s
def thNil:TS:=λ_ _ _=>False
def thAs(K:yf)(a C D:Addr)(i:Nat)(tb rest:TS):TS:=λZ σ H=>∃ b,PySem.W.mroIn K C (.ref D)=some b/\XAt K D/\XAt K C /\
 if b=true then tb { nx:=λc H'=>Z.nx (c.set i none) H',rt:=Z.rt,bk:=λc H'=>Z.bk (c.set i none) H',ct:=λc H'=>Z.ct (c.set i none) H' } (σ.set i (some (.ref a))) H else rest Z σ H
def thNo(K:yf)(C D:Addr)(tb rest:TS):TS:=λZ σ H=>∃ b,PySem.W.mroIn K C (.ref D)=some b/\XAt K D/\XAt K C/\if b=true then tb Z σ H else rest Z σ H
theorem qfD{K:yf}{o:Obj}{Q:Bool->Shared->Prop}(X:K.In s.heap)(m:s.heap.get? a=some o)(hc:o.cls=.ref C)(d:XAt K D)(hb:PySem.W.mroIn K C (.ref D)=some b)(q:Q b s) :
  wpAny M A (excMatches (.ref a) (.ref D)) Q E s:=by
 obtain⟨B,G,N,bs,i,h,sn,n,p,j,r,v,w,x,y,z,e,l⟩:=qdM X d.xc;have c:(Value.ref D::i).contains (.type "BaseException")=true:=by rw[yW,qaS l (by simp),kc]
 have f:=tc_notTuple;have L:=YT (M:=M) X hb;obtain⟨u,g,t,tk,F⟩:=s;unfold excMatches
 repeat (first | with_reducible show Yl e ?_ | (with_reducible show Yl m ?_;rw[hc]) | (with_reducible show YU e ?_;rw[c]) | with_reducible show L.at ?_ | wp_step)
 cases b<;>(wp_walk;show q)
section
variable{X:Cx}{a C D:Addr}{dx:Option Addr}{c n:Str}{cp pos:Pos}{b0:Stmt}{body:List Stmt}{rest:List ExceptHandler}{tb tr:TS}{i:Nat}{K:yf}
theorem qfE:PH X a C dx [] thNil:=λ_ _ _ _ _ _ _ h=>h.elim
theorem suite_as{R:Result->Shared->Prop}{e:Value}
  (h:wpAny (model prog w) A (setFlight e none) (λ_ a=>wpAny (model prog w) A (bindName env n e) (λ_ b=>wpAny (model prog w) A (execs (b0::body) env) (λf c=>R (.ok f) c) (λ_ _=>False) b) (λ_ _=>False) a) (λ_ _=>False) s) :
  codeAny (model prog w) A (.handlers e [.ExceptHandler none (some n) (b0::body) pos] env) R s:=by
 show codeAny_of_tree ?_;show wpAny _ A (do return Fin.done (<- (handleWith e env [.ExceptHandler none (some n) (b0::body) pos]).onRaise (λx=>do noteFrame x env;theTreesLotGoes x))) _ _ s;show yp (wpAny_noted ?_);unfold handleWith;show yp (xG (yp (Yd h (λ_ a h1=>yp (Yd h1 (λ_ b d=>yp (wpAny_attempt (Yd d (λf c g=>yu (yu g)) λ_ _ z=>z.elim))) λ_ _ z=>z.elim)) λ_ _ z=>z.elim)))
theorem qeF(W:X.K=K)(y:X.N.Nodup)(x:X.N[i]?=some n)(m:X.env.scope.names.lookup n=some .local)(hg:Gl X c)(hm:X.mg c=some (.ref D))(hb:PSs (X.hand a) (b0::body) tb)(hr:PH X a C dx rest tr)
  (E:(c==("__debug__":Str))=false:=by decide):PH X a C dx (.ExceptHandler (some (.Name c cp)) (some n) (b0::body) pos::rest) (thAs K a C D i tb tr):=by
 subst W;intro pins s σ H Z I hl h;obtain⟨b,B,xd,xc,q⟩:=h;obtain⟨vs,Y⟩:=(show IsX H a C dx from .inr hl.at_).get I.hok;show wpAny_handleBy_cons (codeAny_handlers_test ?_) (by intro q;cases q);have U:=I.hand a;show zm (X:=X.hand a) U hg hm (qfD I.kIn Y rfl xd B ?_) E
 cases b with
 | false=>show hr pins s σ H Z I hl q
 | true =>
  obtain⟨T,t,lo⟩:=hl.tr;show suite_as (qaz t λh1 t1 M aa=>?_);have kk:Keep (frs X.stack) [T] s.heap h1:=⟨λb o e z _=>M b o (by simpa using z) e,λb o e z _=>⟨o.slots,M b o (by simpa using z) e⟩⟩;have P:=I.noted hl.at_ kk (λb hb=>.inr (by rw[yA.mp hb];show lo)) t1;have R:=P.hand a;show wpAny_bindName (qbl (X:=X.hand a) R y x (.inl m) (v:=.ref a) rfl (λs2 S=>?_) (.inr m));have q':tb { nx:=λd H'=>Z.nx (d.set i none) H',rt:=Z.rt,bk:=λd H'=>Z.bk (d.set i none) H',ct:=λd H'=>Z.ct (d.set i none) H' } (σ.set i (some (.ref a))) H:=q;show thn (hb pins s2 _ H _ S q') λf O p=>?_
  have j:∀{d:St} {H':Hp} {Q:Unit->Shared->Prop},Inv (X.hand a) pins d H' O->(∀ l,Inv X pins (d.set i none) H' l->Q () l)->wpAny (model X.prog X.w) X.A (do bindName X.env n .none;unbindBehindTheSuite X.env n pos) Q X.xe O:=λ{d H' Q} J k=>by
   have G:=Inv.unhand I.ok.hd J;have F:i<d.length:=by rw[G.len];show(yc.mp x).1
   show yp (wpAny_bindName (qbl G y x (.inl m) (v:=.non) rfl (λl g=>?_) (.inr m)));show wpAny_onRaise (unbind_ok g y x m (v:=.non) (by rw[xE F]) λs5 L=>k s5 ?_);rw[List.set_set] at L;show L
  cases f with
  | next=>obtain⟨d,H',J,z⟩:=p;show j J λl g=>⟨_,H',g,z⟩
  | brk=>obtain⟨d,H',J,z⟩:=p;show j J λl g=>⟨_,H',g,z⟩
  | cont=>obtain⟨d,H',J,z⟩:=p;show j J λl g=>⟨_,H',g,z⟩
  | ret u=>obtain⟨v,d,H',J,r,z⟩:=p;show j J λl g=>⟨v,_,H',g,r,z⟩
theorem ph_no(n:X.K=K)(w:Gl X c)(x:X.mg c=some (.ref D))(hb:PSs (X.hand a) (b0::body) tb)(y:PH X a C dx rest tr)(j:(c==("__debug__":Str))=false:=by decide) :
  PH X a C dx (.ExceptHandler (some (.Name c cp)) none (b0::body) pos::rest) (thNo K C D tb tr):=by
 subst n;intro pins s σ H Z I hl h;obtain⟨b,i,xd,L,q⟩:=h;obtain⟨vs,p⟩:=(show IsX H a C dx from .inr hl.at_).get I.hok;show wpAny_handleBy_cons (codeAny_handlers_test ?_) (by intro q;cases q);show zm (X:=X.hand a) (I.hand a) w x (qfD I.kIn p rfl xd i ?_) j
 cases b with
 | false=>show y pins s σ H Z I hl q
 | true =>
  obtain⟨T,t,lo⟩:=hl.tr;show codeAny_handlers_suite (qaz t λh1 F l E=>?_);have A:Keep (frs X.stack) [T] s.heap h1:=⟨λb o e z _=>l b o (by simpa using z) e,λb o e z _=>⟨o.slots,l b o (by simpa using z) e⟩⟩;have m:=I.noted hl.at_ A (λb hb=>.inr (by rw[yA.mp hb];show lo)) F;have B:tb Z σ H:=q;show Yd (hb pins _ σ H Z (m.hand a) B) (λf G g=>?_) λ_ _ z=>z.elim
  cases f with
  | next=>obtain⟨d,H',J,z⟩:=g;show⟨d,H',Inv.unhand I.ok.hd J,z⟩
  | brk=>obtain⟨d,H',J,z⟩:=g;show⟨d,H',Inv.unhand I.ok.hd J,z⟩
  | cont=>obtain⟨d,H',J,z⟩:=g;show⟨d,H',Inv.unhand I.ok.hd J,z⟩
  | ret u=>obtain⟨v,d,H',J,r,z⟩:=g;show⟨v,d,H',Inv.unhand I.ok.hd J,r,z⟩
end
def tTry(X:Cx)(body:List Stmt)(e:List ExceptHandler)(te:TS):TS:=λD σ H=>∃(c:St->XK) (tb:TS),(∀ pn xe,XOk (X.tried pn xe) c->PSs (X.tried pn xe) body tb) /\
 tb { nx:=te D,rt:=D.rt,bk:=D.bk,ct:=D.ct } σ H/\∀(a C:Addr) (dx:Option Addr) (b:St) (H':Hp),c b (.ref C) dx H'->H' a=some (XO a C dx)->∃ d,PH X a C dx e d/\d D b H'
section
variable{X:Cx}{body orelse:List Stmt}{h0:ExceptHandler}{hs:List ExceptHandler}{pos:Pos}{te:TS}
theorem qfF(hc:X.calm=true)(j:X.stack=X.env::X.outer)(y:X.env.frame=some X.env.locals)(ho:PSs X orelse te):PS X (.Try body (h0::hs) orelse [] pos) (tTry X body (h0::hs) te):=by
 intro pins s σ H D I h;obtain⟨R,tb,hb,q,hh⟩:=h;have E:X.A.frames=some (X.env::X.outer):=by rw[<- j];show I.ok.frames
 let m:Value->Shared->Prop:=λe d=>∃(a C:Addr) (dx:Option Addr) (c:St) (H':Hp),e=.ref a/\Inv X pins c H' d/\H' a=some (XO a C dx)/\R c (.ref C) dx H' /\
  ((∃ T,Trc d.heap a (.ref C) dx T .none/\Loose X pins H' T)\/∃ a0,d.heap.get? a=some ⟨.ref C,dx,.fields (xfs a0),#[]⟩)
 have Z:XOk (X.tried (X.pn++pins) m) R:=by
  show⟨λpins' c L d e s2 J l=>?_,λpins' c L d a C dx J e z=>?_,hc⟩
  .obtain⟨a,C,dx,T,H',rfl,P,N,un,O,n,t,hT,M,z⟩:=l;have p:=J.call' (s':=s2) (H':=H') (ch:=[]) P un O N (λb z=>absurd z (by simp));have G:=Inv.untried J;show⟨a,C,dx,c,H',rfl,Inv.untried p,n,z,.inl ⟨T,t,G.loose hT M⟩⟩
  .have G:=Inv.untried J;obtain⟨⟨a0,l⟩,_⟩:=(show ObjOk _ _ L d.heap a (XN a C dx) from G.hok a _ e);have p:Inv X pins c (upd L a (XO a C dx)) d:=G.write (x:=a) (e:=a) (o:=XO a C dx) (h':=d.heap) (t':=d.toks) (by rw[e];show Yp) (.inl rfl) (λ_ _ _ q=>q) ⟨_,l⟩ (XO.ok l);show⟨a,C,dx,c,_,rfl,p,qc,z,.inr ⟨a0,l⟩⟩
 have B:=hb (X.pn++pins) m Z [] s σ H _ (I.tried m) q;show wpAny_Try_except (Yd B (λf d K=>?_) λe d he=>?_)
 .cases f with
  | next=>obtain⟨c,H',J,z⟩:=K;show ho pins d c H' D (Inv.untried J) z
  | brk=>obtain⟨c,H',J,z⟩:=K;show⟨c,H',Inv.untried J,z⟩
  | cont=>obtain⟨c,H',J,z⟩:=K;show⟨c,H',Inv.untried J,z⟩
  | ret u=>obtain⟨v,c,H',J,r,z⟩:=K;show⟨v,c,H',Inv.untried J,r,z⟩
 .obtain⟨a,C,dx,c,H',rfl,J,n,z,tt⟩:=he;obtain⟨th,hp,hq⟩:=hh a C dx c H' z n;have F:d.heap.FunFrames X.base (X.env::X.outer):=by rw[<- j];show J.stack
  have S:∀(h':Heap) (i:Addr) (zs:LX),d.heap.objs.size<=i->Trc h' a (.ref C) dx i (rawInt X.env.locals)->Keep (frs (X.env::X.outer)) zs d.heap h'->(∀ b∈zs,b=a\/Loose X pins H' b) ->
    wpAny (model X.prog X.w) X.A (setFlight (.ref a) none) (λ_ s3=>wpAny (model X.prog X.w) X.A (handleBy (.ref a) X.env (h0::hs)) (SP X pins D) X.xe s3) X.xe { d with heap:=h' }:=λh' i zs g t' k hz=>by
   have lo:=J.loose g (J.hok.fresh g);have p:=J.noted n (by rw[j];show k) hz t';show qaz (s:={ d with heap:=h' }) t' λh2 W U aa=>?_;have kk:Keep (frs X.stack) [i] h' h2:=⟨λb o e z _=>U b o (by simpa using z) e,λb o e z _=>⟨o.slots,U b o (by simpa using z) e⟩⟩;have Y:=p.noted n kk (λb hb=>.inr (by rw[yA.mp hb];show lo)) W;show hp pins _ c H' D Y ⟨n,i,W,lo⟩ hq
  rcases tt with⟨T,t,lo⟩ | ⟨a0,l⟩
  .show qce (base:=X.base) E F y t λh' i g t' k=>S h' i _ g t' k λb hb=>?_;simp only[yt,yv,yN] at hb;rcases hb with rfl | rfl
   .show .inl rfl
   .show .inr lo
  .show qbH (base:=X.base) E F y l rfl rfl λh' i g t' k=>S h' i _ g t' k λb hb=>?_;show .inl (yA.mp hb)
end
def TyX(K:yf)(H:Hp)(x:V)(t:Value):Prop:=TyOf K H x t\/∃ a C dx,x=.ref a/\t=.ref C/\IsX H a C dx/\XAt K C/\∀ d,dx=some d->∃ fs,H d=some (.xd fs)
theorem TyX.kit{x:V}(I:Inv X pins σ H s)(e:RelV x u)(ty:TyX X.K H x t):∃ P:Heap->Prop,PySem.W.KitX X.K u t P/\P s.heap/\u≠.builtin "__main__.__loader__#opaque":=by
 rcases ty with ty | ⟨a,C,dx,rfl,rfl,hx,c,hd⟩
 .show ty.kit I e
 .cases e;obtain⟨vs,b⟩:=hx.get I.hok
  cases dx with
  | none=>show⟨_,qdN (od:=none) c,⟨b,rfl,rfl,Yp⟩,λz=>nomatch z⟩
  | some d =>
   obtain⟨fs,f⟩:=hd d rfl;obtain⟨od,g,h1,_⟩:=qfx I f;show⟨_,qdN (od:=some od) c,⟨b,rfl,rfl,h1⟩,λz=>nomatch z⟩
def qgI(K:yf):List V->Hp->VK->Prop:=λxs H Q=>∃ x y t c b,xs=[x,y]/\TyX K H x t/\qcP y=some c/\PySem.W.kitOne K t c=some b/\Q (.bl b) H
def qeG(K:yf):List V->Hp->VK->Prop:=λxs H Q=>∃ x p ys t a b,xs=[x,.ref p]/\TyX K H x t/\H p=some (.tup ys)/\ys.map qcP=a.map some/\PySem.W.kitAny K t a=some b/\Q (.bl b) H
section
variable{X:Cx}{K:yf}
theorem zb(a:X.K=K):zX X (.builtin "isinstance") (qgI K):=by
 subst a;intro pins s σ H xs us Q I r h;obtain⟨x,y,t,c,b,rfl,ty,d,hb,q⟩:=h;obtain⟨u,v,rfl,g,i⟩:=qep r;have e:=qb1 d i;subst e;obtain⟨P,Z,p,f⟩:=ty.kit I g;show PySem.W.kia_one Z I.kIn p hb f λtk=>⟨.bl b,H,I.tok tk,rfl,q⟩
theorem qcf(i:X.K=K):zX X (.builtin "isinstance") (qeG K):=by
 subst i;intro pins s σ H xs us Q I r h;obtain⟨x,p,ys,t,C,b,rfl,ty,m,y,hb,q⟩:=h;obtain⟨u,v,rfl,B,f⟩:=qep r;cases f;obtain⟨P,Z,A,z⟩:=ty.kit I B;obtain⟨_,its,f,o,l,hc,n,j⟩:=(show ObjOk X.prog X.w H s.heap p (.tup ys) from I.hok p _ m);have e:=qbE y f;subst e;obtain⟨c,D,g,E⟩:=o;have a:c=.type "tuple":=hc;have d:g=.seq its.toArray n:=j;subst a d;show PySem.W.kia_tup Z I.kIn A l hb z λtk=>⟨.bl b,H,I.tok tk,rfl,q⟩
end
mutual
inductive EqD(K:yf)(H:Hp):Nat->V->V->Bool->Prop
 | flat {n:Nat} {x y:V} (fx:qM x=true) (fy:qM y=true):EqD K H n x y (eqV x y)
 | self {n:Nat} {a:Addr}:EqD K H n (.ref a) (.ref a) true
 | deep {n:Nat} {a b:Addr} {k:Bool} (h:EqT K H n a b k) (ne:a≠b):EqD K H n (.ref a) (.ref b) k
inductive EqT(K:yf)(H:Hp):Nat->Addr->Addr->Bool->Prop
 | lst {n:Nat} {a b:Addr} {xs ys:List V} {e:Nat->Bool} (ha:SqL K H a xs) (hb:SqL K H b ys) (hl:xs.length=ys.length) (he:∀ j x y,xs[j]?=some x->ys[j]?=some y->EqD K H n x y (e j)):EqT K H (n+1) a b ((List.range xs.length).all e)
 | lstL {n:Nat} {a b:Addr} {xs ys:List V} (ha:SqL K H a xs) (hb:SqL K H b ys) (hl:xs.length≠ys.length):EqT K H (n+1) a b false
 | tup {n:Nat} {a b:Addr} {xs ys:List V} {e:Nat->Bool} (ha:SqT K H a xs) (hb:SqT K H b ys) (he:∀ j x y,xs[j]?=some x->ys[j]?=some y->EqD K H n x y (e j)):EqT K H (n+1) a b ((List.range (min xs.length ys.length)).all e&&xs.length==ys.length)
 | lt {n:Nat} {a b:Addr} {xs ys:List V} (ha:SqL K H a xs) (hb:SqT K H b ys):EqT K H (n+1) a b false
 | tl {n:Nat} {a b:Addr} {xs ys:List V} (ha:SqT K H a xs) (hb:SqL K H b ys):EqT K H (n+1) a b false
end
theorem qX:∀{xs:List V} {us:List Value} {j:Nat} {u:Value},Vals xs us->us[j]?=some u->∃ x,xs[j]?=some x/\RelV x u
 | _,_,_,_,.nil,e=>by simp at e
 | _,_,0,_,.cons r _,e=>by simp at e;subst e;show⟨_,rfl,r⟩
 | _,_,j+1,u,.cons _ t,e=>by
  obtain⟨x,h1,a⟩:=qX (j:=j) (u:=u) t (by simpa using e);show⟨x,by simpa using h1,a⟩
section
variable{X:Cx}{pins:List (Addr×Obj)}{σ:St}{H:Hp}{s:Shared}
theorem qdj(I:Inv X pins σ H s):∀ n,(∀(A:Around) (x y:V) (k:Bool) (u v:Value),EqD X.K H n x y k->RelV x u->RelV y v->A.units+n<cLine->SeqAt.EqAt A s u v k)/\(∀(A:Around) (a b:Addr) (k:Bool),EqT X.K H n a b k->A.units+n<cLine->SeqAt.RcAt A s (.ref a) (.ref b) k):=by
 intro n
 induction n with
 | zero =>
  have G:∀(A:Around) (a b:Addr) (k:Bool),EqT X.K H 0 a b k->A.units+0<cLine->SeqAt.RcAt A s (.ref a) (.ref b) k:=λA a b k h=>by cases h
  show⟨λA x y k u v h g i B=>?_,G⟩
  cases h with
  | flat fx fy=>show qet g i fx fy
  | self=>cases g;cases i;show XJ _
  | deep h ne=>cases h
 | succ n ih =>
  have E:∀(A:Around) (a b:Addr) (k:Bool),EqT X.K H (n+1) a b k->A.units+(n+1)<cLine->SeqAt.RcAt A s (.ref a) (.ref b) k:=λA a b k h B=>by
   have f:A.units<cLine:=by lk
   have o:A.in1.units+n<cLine:=by show A.units+1+n<cLine;lk
   cases h with
   | @lst _ _ _ xs ys e ha hb hl he =>
    obtain⟨its,r,pl,q⟩:=I.list ha;obtain⟨c,m,d,l⟩:=I.list hb;have p:xs.length=its.toArray.size:=by rw[yr];show r.length
    have t:ys.length=c.toArray.size:=by rw[yr];show m.length
    rw[p];show SeqAt.RcAt.lists pl.isList d.isList (by rw[<- p,<- t,hl]) f λj h1 F=>?_;have w:its[j]?=some its.toArray[j]:=by simp
    have z:c[j]?=some c.toArray[j]:=by simp
    obtain⟨x,C,g⟩:=qX r w;obtain⟨y,D,i⟩:=qX m z;show ih.1 A.in1 x y (e j) _ _ (he j x y C D) g i o
   | @lstL _ _ _ xs ys ha hb hl =>
    obtain⟨its,r,pl,q⟩:=I.list ha;obtain⟨c,m,d,l⟩:=I.list hb;show SeqAt.RcAt.lists_lengths pl.isList d.isList ?_ f;rw[yr,yr,<- r.length,<- m.length];simp[hl]
   | @tup _ _ _ xs ys e ha hb he =>
    obtain⟨its,r,pl,q⟩:=I.tuple ha;obtain⟨c,m,d,l⟩:=I.tuple hb;have p:xs.length=its.toArray.size:=by rw[yr];show r.length
    have t:ys.length=c.toArray.size:=by rw[yr];show m.length
    rw[p,t];show SeqAt.RcAt.tuples pl d f λj h1 F=>?_;have w:its[j]?=some its.toArray[j]:=by simp
    have z:c[j]?=some c.toArray[j]:=by simp
    obtain⟨x,C,g⟩:=qX r w;obtain⟨y,D,i⟩:=qX m z;show ih.1 A.in1 x y (e j) _ _ (he j x y C D) g i o
   | lt ha hb =>
    obtain⟨its,r,pl,q⟩:=I.list ha;obtain⟨c,m,d,l⟩:=I.tuple hb;show SeqAt.RcAt.list_tuple pl.isList d f
   | tl ha hb =>
    obtain⟨its,r,pl,q⟩:=I.tuple ha;obtain⟨c,m,d,l⟩:=I.list hb;show SeqAt.RcAt.tuple_list pl d.isList f
  show⟨λA x y k u v h g i B=>?_,E⟩
  cases h with
  | flat fx fy=>show qet g i fx fy
  | self=>cases g;cases i;show XJ _
  | deep h ne=>cases g;cases i;show SeqAt.EqAt.of_refs ne (E A _ _ k h B)
theorem ne_refs(I:Inv X pins σ H s){n:Nat}{A:Around}{a b:Addr}{k:Bool}(h:EqT X.K H n a b k)(B:A.units+n<cLine):SeqAt.RcNeAt A s (.ref a) (.ref b) (!k):=by
 cases n with
 | zero=>cases h
 | succ n =>
  have w:=qdj I n;have f:A.units<cLine:=by lk
  have l:A.in1.units+n<cLine:=by show A.units+1+n<cLine;lk
  cases h with
  | @lst _ _ _ xs ys e ha hb hl he =>
   obtain⟨its,r,pl,o⟩:=I.list ha;obtain⟨c,i,d,g⟩:=I.list hb;have m:xs.length=its.toArray.size:=by rw[yr];show r.length
   have p:ys.length=c.toArray.size:=by rw[yr];show i.length
   rw[m];show SeqAt.RcNeAt.lists pl.isList d.isList (by rw[<- m,<- p,hl]) f λj h1 z=>?_;obtain⟨x,q,u⟩:=qX r (show its[j]?=some its.toArray[j] by simp);obtain⟨y,t,v⟩:=qX i (show c[j]?=some c.toArray[j] by simp);show w.1 A.in1 x y (e j) _ _ (he j x y q t) u v l
  | @lstL _ _ _ xs ys ha hb hl =>
   obtain⟨its,r,pl,o⟩:=I.list ha;obtain⟨c,i,d,g⟩:=I.list hb;show SeqAt.RcNeAt.lists_lengths pl.isList d.isList ?_ f;rw[yr,yr,<- r.length,<- i.length];simp[hl]
  | @tup _ _ _ xs ys e ha hb he =>
   obtain⟨its,r,pl,o⟩:=I.tuple ha;obtain⟨c,i,d,g⟩:=I.tuple hb;have m:xs.length=its.toArray.size:=by rw[yr];show r.length
   have p:ys.length=c.toArray.size:=by rw[yr];show i.length
   rw[m,p];show SeqAt.RcNeAt.tuples pl d f λj h1 z=>?_;obtain⟨x,q,u⟩:=qX r (show its[j]?=some its.toArray[j] by simp);obtain⟨y,t,v⟩:=qX i (show c[j]?=some c.toArray[j] by simp);show w.1 A.in1 x y (e j) _ _ (he j x y q t) u v l
  | lt ha hb =>
   obtain⟨its,r,pl,o⟩:=I.list ha;obtain⟨c,i,d,g⟩:=I.tuple hb;show SeqAt.RcNeAt.list_tuple pl.isList d f
  | tl ha hb =>
   obtain⟨its,r,pl,o⟩:=I.tuple ha;obtain⟨c,i,d,g⟩:=I.list hb;show SeqAt.RcNeAt.tuple_list pl d.isList f
theorem qfG{A:Around}{x y:V}{u v:Value}(e:RelV x u)(c:RelV y v)(f:qM x=true)(d:qM y=true):SeqAt.RcAt A s u v (eqV x y)/\SeqAt.RcNeAt A s u v (!eqV x y):=by
 cases x with
 | non =>
  cases e
  cases y with
  | non=>cases c;show⟨SeqAt.RcAt.none_none,SeqAt.RcNeAt.none_none⟩
  | bl b=>cases c;show⟨SeqAt.RcAt.none_bool b,SeqAt.RcNeAt.none_bool b⟩
  | int b=>obtain⟨t,rfl⟩:=c;show⟨SeqAt.RcAt.none_int b t,SeqAt.RcNeAt.none_int b t⟩
  | str b=>obtain⟨t,rfl⟩:=c;show⟨SeqAt.RcAt.none_str b t,SeqAt.RcNeAt.none_str b t⟩
  | _=>cases d
 | bl a =>
  cases e
  cases y with
  | non=>cases c;show⟨SeqAt.RcAt.bool_none a,SeqAt.RcNeAt.bool_none a⟩
  | bl b=>cases c;show⟨SeqAt.RcAt.bool_bool a b,SeqAt.RcNeAt.bool_bool a b⟩
  | int b=>obtain⟨t,rfl⟩:=c;show⟨SeqAt.RcAt.bool_int a b t,SeqAt.RcNeAt.bool_int a b t⟩
  | str b=>obtain⟨t,rfl⟩:=c;show⟨SeqAt.RcAt.bool_str a b t,SeqAt.RcNeAt.bool_str a b t⟩
  | _=>cases d
 | int a =>
  obtain⟨t',rfl⟩:=e
  cases y with
  | non=>cases c;show⟨SeqAt.RcAt.int_none a t',SeqAt.RcNeAt.int_none a t'⟩
  | bl b=>cases c;show⟨SeqAt.RcAt.int_bool a t' b,SeqAt.RcNeAt.int_bool a t' b⟩
  | int b=>obtain⟨t,rfl⟩:=c;show⟨SeqAt.RcAt.int_int a t' b t,SeqAt.RcNeAt.int_int a t' b t⟩
  | str b=>obtain⟨t,rfl⟩:=c;show⟨SeqAt.RcAt.int_str a t' b t,SeqAt.RcNeAt.int_str a t' b t⟩
  | _=>cases d
 | str a =>
  obtain⟨t',rfl⟩:=e
  cases y with
  | non=>cases c;show⟨SeqAt.RcAt.str_none a t',SeqAt.RcNeAt.str_none a t'⟩
  | bl b=>cases c;show⟨SeqAt.RcAt.str_bool a t' b,SeqAt.RcNeAt.str_bool a t' b⟩
  | int b=>obtain⟨t,rfl⟩:=c;show⟨SeqAt.RcAt.str_int a t' b t,SeqAt.RcNeAt.str_int a t' b t⟩
  | str b=>obtain⟨t,rfl⟩:=c;show⟨SeqAt.RcAt.str_str a t' b t,SeqAt.RcNeAt.str_str a t' b t⟩
  | _=>cases d
 | _=>cases f
end
def qgJ(K:yf)(c:Bool):R2:=λx y H Q=>(qM x=true/\qM y=true/\Q (.bl (if c then !eqV x y else eqV x y)) H) \/
 (∃ a b k n,x=.ref a/\y=.ref b/\n<=60/\EqT K H n a b k/\Q (.bl (if c then !k else k)) H) \/
 (∃ a kvs,x=.ref a/\y=.ref a/\H a=some (.dK kvs)/\Q (.bl (!c)) H)
theorem qbI{b:Type}[DecidableEq b]:∀{a:List (b×Value)} {k:b} {v:Value},(a.map (·.1)).Nodup->(k,v)∈a->valueAt a k=some v
 | [],_,_,_,h=>by cases h
 | (k',v')::r,k,v,hn,h=>by
  obtain⟨h1,c⟩:=ym.mp (show(k'::r.map (·.1)).Nodup from hn);unfold valueAt;rw[xp];by_cases e:k'=k
  .subst e;simp only[decide_true];rcases yt.mp h with z | z
   .cases z;rfl
   .show absurd (yK.mpr ⟨(k',v),z,rfl⟩) h1
  .simp only[e,kL];rcases yt.mp h with z | z
   .cases z;show absurd rfl e
   .show qbI c z
theorem qdk{A:Around}{s:Shared}{c:Type}[DecidableEq c](a:List (c×Value))(d:(a.map (·.1)).Nodup):∀ f:List (c×Value),(∀ p∈f,p∈a)->PySem.W.KeqHits A s a f true
 | [],_=>.nil
 | (k,v)::r,h=>by
  have hv:valueAt a k=some v:=qbI d (h (k,v) yC);show .hit (e:=true) (b:=true) hv (XJ v) (qdk a d r λp g=>h p (yz _ g))
section
variable{X:Cx}{K:yf}
theorem k_eqU(m:X.K=K)(t:X.A.units+100<cLine):OpR X (compareOp .Eq) (qgJ K false):=by
 subst m;intro pins s σ H x y u v Q I c f h;rcases h with⟨j,l,q⟩ | ⟨a,b,k,n,rfl,rfl,p,e,q⟩ | ⟨a,kvs,rfl,rfl,i,q⟩
 .show(qfG c f j l).1 _ _ _ _ ⟨.bl _,H,I,rfl,q⟩
 .cases c;cases f;show(qdj I n).2 X.A a b k e (by lk) _ _ _ _ ⟨.bl _,H,I,rfl,q⟩
 .cases c;cases f;obtain⟨_,g,vs,r,d⟩:=(show ObjOk X.prog X.w H s.heap a (.dK kvs) from I.hok a _ i);obtain⟨_,_,_,_,_,_,_,_,o⟩:=id d;show PySem.W.keq_eq g g d d (by lk) (λ_=>qdk vs o vs λ_ h=>h) ?_;rw[YY];show⟨.bl true,H,I,rfl,q⟩
theorem qdl(m:X.K=K)(t:X.A.units+100<cLine):OpR X (compareOp .NotEq) (qgJ K true):=by
 subst m;intro pins s σ H x y u v Q I c f h;rcases h with⟨j,l,q⟩ | ⟨a,b,k,n,rfl,rfl,p,e,q⟩ | ⟨a,kvs,rfl,rfl,i,q⟩
 .show(qfG c f j l).2 _ _ _ _ ⟨.bl _,H,I,rfl,q⟩
 .cases c;cases f;show ne_refs I e (by lk) _ _ _ _ ⟨.bl _,H,I,rfl,q⟩
 .cases c;cases f;obtain⟨_,g,vs,r,d⟩:=(show ObjOk X.prog X.w H s.heap a (.dK kvs) from I.hok a _ i);obtain⟨_,_,_,_,_,_,_,_,o⟩:=id d;show PySem.W.keq_ne g g d d (by lk) (λ_=>qdk vs o vs λ_ h=>h) ?_;rw[YY];show⟨.bl false,H,I,rfl,q⟩
end
section
variable{X:Cx}{K:yf}
def qfH(K:yf):R2:=λx y H Q=>rIx K x y H Q\/∃ a v,x=.ref a/\DGet H a y (some v)/\Q v H
theorem qH(f:X.K=K)(m:X.A.units+100<cLine):IxR X (qfH K):=by
 subst f;show IxR.or ix_seq ?_;intro d c pins s σ H x y v u Q I j l h i;obtain⟨a,z,rfl,g,q⟩:=h;cases j;show tail_any (dict_typeIs I g) PySem.F.slot_dict_getitem.lookup (d_getItem (by lk) I g l λo n e b=>⟨z,H,e,b,q⟩) i
def rSetU:qgo:=λo i v H Q=>rSetL o i v H Q\/∃ a H',o=.ref a/\DPut H a i v H'/\Q H'
theorem qdQ(l:X.A.units+100<cLine):qg9 X rSetU:=by
 intro pins s σ H o i v j f u Q I c b d h;rcases h with h | ⟨a,H',rfl,g,q⟩
 .show set_list pins s σ H o i v j f u Q I c b d h
 .cases c;show d_setItem (by lk) I g b d λs' e=>⟨H',e,q⟩
def qgK(K:yf)(b:Bool):R2:=λx y H Q=>rIn K b x y H Q\/(∃ a o,y=.ref a/\DGet H a x o/\Q (.bl (if b then !o.isSome else o.isSome)) H) \/
 (∃ p xs e n,y=.ref p/\SqL K H p xs/\n<=60/\(∀ z∈xs,EqD K H n z x (e z))/\Q (.bl (if b then !xs.any e else xs.any e)) H)
theorem qfI{pins:List (Addr×Obj)}{σ:St}{H:Hp}{s:Shared}{xs:List V}{its:List Value}{x:V}{u:Value}{e:V->Bool}{n:Nat}{A:Around}(I:Inv X pins σ H s)(r:Vals xs its)(t:RelV x u)(p:A.units+n<cLine)(o:∀ z∈xs,EqD X.K H n z x (e z)) :
  ∃ i:Value->Bool,(∀ w,w∈its.toArray->SeqAt.EqAt A s w u (i w))/\its.toArray.any i=xs.any e:=by
 classical
 show⟨λw=>decide (∃ z∈xs,RelV z w/\e z=true),λw hw=>?_,?_⟩
 .have f:w∈its:=by simpa using hw
  obtain⟨j,d⟩:=Xo.mp f;obtain⟨z,a,b⟩:=qX r d;have l:=ye a
  have eq:decide (∃ z∈xs,RelV z w/\e z=true)=e z:=by
   cases q:e z with
   | true=>show yL ⟨z,l,b,q⟩
   | false =>
    show yk λ⟨v,_,g,m⟩=>?_;rw[RelV.inj g b,q] at m;cases m
  show SeqAt.EqAt A s w u (decide (∃ z∈xs,RelV z w/\e z=true));rw[eq];show(qdj I n).1 A z x (e z) w u (o z l) b t p
 .rw [Yn,xB];constructor
  .intro h;have h':its.any (λw=>decide (∃ z∈xs,RelV z w/\e z=true))=true:=by simpa using h
   obtain⟨w,_,q⟩:=xB.mp h';obtain⟨z,a,_,c⟩:=yj q;show⟨z,a,c⟩
  .rintro ⟨z,a,c⟩;obtain⟨j,d⟩:=Xo.mp a;obtain⟨w,hw,b⟩:=r.get d;have:its.any (λw=>decide (∃ z∈xs,RelV z w/\e z=true))=true:=xB.mpr ⟨w,ye hw,yL ⟨z,a,b,c⟩⟩;simpa using this
theorem qdm(j:X.K=K)(l:X.A.units+100<cLine):OpR X (compareOp .In) (qgK K false):=by
 subst j;intro pins s σ H x y u v Q I b c h;rcases h with h | ⟨a,o,rfl,g,q⟩ | ⟨p,xs,e,n,rfl,hl,hn,he,q⟩
 .show op_in_seq pins s σ H x y u v Q I b c h
 .cases c;show qg2 (by lk) I g b λs' d=>⟨.bl _,H,d,rfl,q⟩
 .cases c;obtain⟨its,r,pl,m⟩:=I.list hl;obtain⟨f,h1,i⟩:=qfI (A:=X.A.in1) I r b (by show X.A.units+1+n<cLine;lk) he;show SeqAt.in_listAt f pl.isList h1 (by rw[i];show⟨.bl _,H,I,rfl,q⟩)
theorem qaU(j:X.K=K)(l:X.A.units+100<cLine):OpR X (compareOp .NotIn) (qgK K true):=by
 subst j;intro pins s σ H x y u v Q I b c h;rcases h with h | ⟨a,o,rfl,g,q⟩ | ⟨p,xs,e,n,rfl,hl,hn,he,q⟩
 .show op_notIn_seq pins s σ H x y u v Q I b c h
 .cases c;show d_notIn (by lk) I g b λs' d=>⟨.bl _,H,d,rfl,q⟩
 .cases c;obtain⟨its,r,pl,m⟩:=I.list hl;obtain⟨f,h1,i⟩:=qfI (A:=X.A.in1) I r b (by show X.A.units+1+n<cLine;lk) he;show ke f pl.isList h1 (by rw[i];show⟨.bl _,H,I,rfl,q⟩)
def rListU(K:yf):List V->Hp->VK->Prop:=λxs H Q=>(∃ p ys,xs=[.ref p]/\(SqL K H p ys\/SqT K H p ys)/\∀ l,H l=none->Q (.ref l) (upd H l (.lst ys))) \/
 (∃ p kvs,xs=[.ref p]/\H p=some (.dK kvs)/\∀ l,H l=none->Q (.ref l) (upd H l (.lst (kvs.map λa=>kV a.1)))) \/
 (∃ x,xs=[.str x]/\x.length<=1000/\∀ l,H l=none->Q (.ref l) (upd H l (.lst (x.cps.toList.map λc=>.str ⟨#[c]⟩))))
theorem qb3{α c:Type}{F:α->c->Prop}:∀{l:List α} {m:List c} {j:Nat} {a:α},Paired F l m->l[j]?=some a->∃ b,m[j]?=some b/\F a b
 | _,_,_,_,.nil,e=>by simp at e
 | _,_,0,_,.cons r _,e=>by simp at e;subst e;show⟨_,rfl,r⟩
 | _,_,j+1,a,.cons _ t,e=>by
  obtain⟨b,h1,d⟩:=qb3 (j:=j) (a:=a) t (by simpa using e);show⟨b,by simpa using h1,d⟩
theorem qbd:∀{ys:List V} {us:List Value},ys.length=us.length->(∀(j:Nat) y u,ys[j]?=some y->us[j]?=some u->RelV y u)->Vals ys us
 | [],[],_,_=>.nil
 | [],_::_,h,_=>by cases h
 | _::_,[],h,_=>by cases h
 | y::ys,u::us,h,q=>.cons (q 0 y u rfl rfl) (qbd (kM h) λj c b h1 a=>q (j+1) c b (by simpa using h1) (by simpa using a))
theorem qdn(L:X.K=K)(hc:X.calm=true):zX X (.type "list") (rListU K):=by
 subst L;intro pins s σ H xs us Q I r h;rcases h with h | ⟨p,kvs,rfl,ea,q⟩ | ⟨x,rfl,hx,q⟩
 .show call_list_of pins s σ H xs us Q I r h
 .obtain⟨u,rfl,N⟩:=qcB r;cases N;obtain⟨D,M,vs,E,d⟩:=(show ObjOk X.prog X.w H s.heap p (.dK kvs) from I.hok p _ ea);obtain⟨ep,n⟩:=d.dictAt;have hl:kvs.length=vs.length:=E.length;show PySem.W.kdl_call (PySem.W.kdl_dict (knd:=jy X.prog X.w) (kvs:=vs) (ep:=ep) M) (I.ok.hd hc) n (by rw[<- hl];show D) λh' tk a f A e it=>?_;obtain⟨o,v⟩:=it
  have hv:Vals (kvs.map λb=>kV b.1) a.toList:=by
   show qbd (by rw[ya,hl,<- o];simp) λj y u h1 g=>?_;obtain⟨k,x,l,G⟩:=v j u (by simpa using g);rw[yd] at h1
   cases B:kvs[j]? with
   | none=>rw[B] at h1;cases h1
   | some b =>
    rw[B] at h1;cases h1;obtain⟨P,C,J,O⟩:=qb3 E B;rw[l] at C;cases C;have F:b.1=k:=J;show RelV (kV b.1) u;rw[F];rcases qL (show qc9 k u=true from G) with⟨i,t,rfl,rfl⟩ | ⟨z,t,rfl,rfl⟩
    .show⟨t,rfl⟩
    .show⟨t,rfl⟩
  show⟨.ref s.heap.objs.size,_,I.laid (t':=tk) A (yg _) (show ObjOk X.prog X.w _ h' _ (.lst (kvs.map λb=>kV b.1)) from⟨by rw[ya];show D,a.toList,f,hv,by simpa using e⟩),rfl,q _ (I.hok.fresh (yg _))⟩
 .obtain⟨u,rfl,t,rfl⟩:=qcB r;have hsz:x.cps.size<=sizeLine:=Ym (qk hx);show call_list_str (I.ok.hd hc) x t (λh' tk a f A e it=>?_) hsz;obtain⟨o,v⟩:=it
  have hv:Vals (x.cps.toList.map λc=>V.str ⟨#[c]⟩) a.toList:=by
   show qbd (by rw[ya];simp[o]) λj y u h1 g=>?_;obtain⟨c,t',l,rfl⟩:=v j u (by simpa using g);rw[yd] at h1;have m:x.cps.toList[j]?=some c:=by simpa using l
   rw[m] at h1;cases h1;show⟨t',rfl⟩
  show⟨.ref s.heap.objs.size,_,I.laid (t':=tk) A (yg _) (show ObjOk X.prog X.w _ h' _ (.lst (x.cps.toList.map λc=>V.str ⟨#[c]⟩)) from⟨by rw[ya];simpa using hsz,a.toList,f,hv,by simpa using e⟩),rfl,q _ (I.hok.fresh (yg _))⟩
end
structure CMethOk(P:Program)(w:World)(K:yf)(mg:Str->Option Value)(base:Heap)(CX:CXT)(k:Nat)(C:Addr)(x m:Str)(ps:LN)(sp:Sp):Prop where
 ex:∃ f fd,FnOk P w K mg base CX k f fd ps sp/\CMeth K C m f/\Binds K fd ps []
 mg_:mg x=some (.ref C)
section
variable{X:Cx}{k:Nat}{C:Addr}{ps:LN}{sp:Sp}{x m:Str}{p pos apos:Pos}{e:Expr}{es:List Expr}{t:TA}
theorem qcg(D:MakeOk X.prog X.w X.K X.mg X.base CX0 k C x ps sp)(h:Room (k+1) X.A)(c:PA X (e::es) t)(g:Gl X x:=by rfl)(a:(x==("__debug__":Str))=false:=by decide)
  (d:starEach (e::es) X.env=(false,eval e X.env)::starEach es X.env:=by rfl) (b:(backTo pos (starEach es X.env)).any (·.1)=false:=by rfl):PE X (.Call (.Name x p) (e::es) [] pos) (qfZ C sp [] E0 t):=by
 obtain⟨f,fd,F,M,hb⟩:=D.ex;show pe_make M F h g D.mg_ hb .nil qN c a d b
theorem jS{pl:Sem Bool}(D:CMethOk X.prog X.w X.K X.mg X.base CX0 k C x m ps sp)(h:Room k X.A)(d:PA X (e::es) t)(g:Gl X x:=by rfl)(a:(x==("__debug__":Str))=false:=by decide)
  (c:starEach (e::es) X.env=(false,eval e X.env)::starEach es X.env:=by rfl) (b:(backTo pos (starEach es X.env)).any (·.1)=false:=by rfl)
  (i:eval (.Call (.Attribute (.Name x p) m apos) (e::es) [] pos) X.env=(do
   let ov <- eval (.Name x p) X.env
   standAt apos.atName
   let (f,first) <- holding [ov] (getMethod ov m pl)
   callWith pos f first (backTo pos (starEach (e::es) X.env)) (backToKw pos (keywordEach [] X.env))):=by rfl) :
  PE X (.Call (.Attribute (.Name x p) m apos) (e::es) [] pos) (qd8 sp [] E0 t):=by
 obtain⟨f,fd,F,M,hb⟩:=D.ex;show pe_clsm (pl:=pl) M F h g D.mg_ hb qN d a c b i
end
theorem own_eq_same{prog:Program}{w:World}{A:Around}{E:Value->Shared->Prop}{s:Shared}{K:yf}{x C:Addr}{ox:Obj}{od:Option Obj}{Q:Value->Shared->Prop}(l:A.units<cLine)(X:K.In s.heap)(I:PySem.W.InstAt s.heap x ox C od)
  (j:PySem.W.findIn K (.ref C) "__eq__"=some (some (.builtin "object.__eq__"))) (g:PySem.W.mroIn K C (.type "object")=some true) (h:Q (.bool true) s):wpAny (model prog w) A (richCompare .Eq (.ref x) (.ref x)) Q E s:=by
 have a:∀{f:Around} {d:Value->Shared->Prop},d (.bool true) s->wpAny (model prog w) f (call (.builtin "object.__eq__") [.ref x,.ref x]) d E s:=λ{f d} q=>by
  show YZ (xt PySem.F.slot_object_eq.plain PySem.F.entry_object_eq (@PySem.W.check_slot (model prog w) _ _ s "object.__eq__" "object" "__eq__" (.ref x) [.ref x] [] _ (by room) (by room) (I.type.andThen (YT X g)) (PySem.F.args_object_eq_2 _ _) ?_));show yp (yu (yp (wpAny_isSame_ref_self ?_)));show yu q
 have one:wpAny (model prog w) A (tryCompare (.ref x) "__eq__" (.ref x)) (λr s'=>∃ v,r=some v/\Q v s') E s:=by
  unfold tryCompare;show yp ?_;simp only[callSpecialIfBound?,bindSpecialIfBound?];show Yk (yp (yp (yp (I.type.here ((Yq X j).here ?_)))));show yp (ky (wpAny_ite ?_));have b:=PySem.F.slot_object_eq.bind (.ref x)
  have c:wpAny (model prog w) A (call (.builtin "object.__eq__") ([.ref x]++[.ref x])>>=λv=>pure (some v)) (λr s'=>wpAny (model prog w) A (match r with | some .notImplemented | none=>pure none | some v=>pure (some v)) (λr s'=>∃ v,r=some v/\Q v s') E s') E s:=
   yp (a (yu (yu ⟨_,rfl,h⟩)))
  split
  .show yp (YA b (yu c))
  .show wpAny_tryCatch (yp (YA b (yu c)))
 unfold richCompare;simp only[oneThing_ref];show Yk (yp (wpAny_cRoomFor l ?_));show yp (I.type.here (yp (I.type.here ?_)));rw[yw (by simp)];show yp (yu ?_);simp only[kf,ku];show yp (Yd one (λr s' z=>?_) λ_ _ e=>e);obtain⟨v,rfl,i⟩:=z;show yu i
structure OEq(K:yf)(C:Addr):Prop where
 eq:PySem.W.findIn K (.ref C) "__eq__"=some (some (.builtin "object.__eq__"))
 ob:PySem.W.mroIn K C (.type "object")=some true
def qhC(K:yf):R2:=λx y H Q=>qgJ K false x y H Q\/∃ a C dx fs,x=.ref a/\y=.ref a/\H a=some (.ins C dx fs)/\OEq K C/\Q (.bl true) H
theorem k_eqW{X:Cx}{K:yf}(d:X.K=K)(e:X.A.units+100<cLine):OpR X (compareOp .Eq) (qhC K):=by
 subst d;intro pins s σ H x y u v Q I b c h;rcases h with h | ⟨a,C,dx,fs,rfl,rfl,ea,oe,q⟩
 .show k_eqU rfl e pins s σ H x y u v Q I b c h
 .cases b;cases c;obtain⟨f,O,_⟩:=qba I.hok ea;obtain⟨od,J,_⟩:=O.look;show own_eq_same (by lk) I.kIn J oe.eq oe.ob ⟨.bl true,H,I,rfl,q⟩
theorem jw{X:Cx}:MtR X "list.append" rAppend:=mt_append
theorem qb4{X:Cx}:MtR X "list.extend" rExtend:=mt_extend
theorem qeH{X:Cx}:MtR X "list.pop" rPop:=mt_pop
theorem mtR_popAt{X:Cx}:MtR X "list.pop" rPopAt:=mt_popAt
theorem boot_ValueError:bootBuiltins "ValueError"=some (.type "ValueError"):=by room
section
variable{D:Ends}{σ:St}{H:Hp}{Q:VK}{t u:TS}{te ta tb tc:TE}{tas:TA}{K:yf}{sp:Sp}{E:XK}{EK:St->XK}{C:Addr}{f m:Str}
theorem vFldU(h:ta σ H λx a=>FlUR K f x a Q):qgG K ta f σ H Q:=h
theorem vSFldU(h:te σ H λy a=>ta σ a λx b=>SFUR K f x y b (D.nx σ)):qgH K ta te f D σ H:=h
theorem vXMake(h:tas σ H λvs a=>vs.length<=1000/\∀ x,a x=none->sp (.ref x::vs) (upd a x (XN x C none)) (λv b=>v=.non/\Q (.ref x) b) E):qcR C sp E tas σ H Q:=h
theorem vMake(h:tas σ H λvs a=>∀ x dx,a x=none->a dx=none->dx≠x->sp (.ref x::(vs++[])) (upd (upd a dx (.own x)) x (.ins C dx [])) (λv b=>v=.non/\Q (.ref x) b) E):qfZ C sp [] E tas σ H Q:=h
theorem vMeth(h:ta σ H λx a=>MeR C m x a (tas σ a λvs b=>sp (x::(vs++[])) b Q E)):qeq C m sp [] E ta tas σ H Q:=h
theorem vVinit(h:tas σ H λvs b=>∃ a C y,vs=[.ref a,y]/\b a=some (XN a C none)/\XAt K C/\Q .non b):qfy K tas σ H Q:=h
theorem vCallS(h:tas σ H λvs a=>sp vs a Q (EK σ)):qfB sp EK tas σ H Q:=h
theorem vMethS(h:ta σ H λx a=>MeR C m x a (tas σ a λvs b=>sp (x::vs) b Q (EK σ))):qeE C m sp EK ta tas σ H Q:=h
theorem vMakeS(h:tas σ H λvs a=>∀ x dx,a x=none->a dx=none->dx≠x->sp (.ref x::vs) (upd (upd a dx (.own x)) x (.ins C dx [])) (λv b=>v=.non/\Q (.ref x) b) (EK σ)):qfC C sp EK tas σ H Q:=h
theorem vRaise(h:te σ H λx b=>∃ a C dx,x=.ref a/\b a=some (XN a C dx)/\XAt K C/\EK σ (.ref C) dx (upd b a (XO a C dx))):qfA K EK te D σ H:=h
theorem qaV{x y:V}{t a:Value}{b:Bool}(ty:TyX K H x t)(c:qcP y=some a)(hb:PySem.W.kitOne K t a=some b)(h:Q (.bl b) H):qgI K [x,y] H Q:=⟨x,y,t,a,b,rfl,ty,c,hb,h⟩
end
section
variable{prog:Program}{w:World}{A:Around}{E:Value->Shared->Prop}{s:Shared}
theorem none_dict{a:Addr}{Q:Value->Shared->Prop}(d:s.TypeIs (.ref a) "dict")(e:A.units<cLine)(h:Q (.bool false) s):wpAny (model prog w) A (richCompare .Eq .none (.ref a)) Q E s:=by
 show Xk (k:=false) rfl d (by decide) PySem.F.sub_dict_NoneType YD xn
  (λ_ c=>call_gives YD rfl PySem.F.entry_NoneType_eq (PySem.F.args_NoneType_eq_2 _ _) (SeqAt.NoneType___eq___none_ref_0 a) c) (λf c=>?_) (λ_ c=>YA (rfl:isSame .none (.ref a)=pure false) c) (.inr e) h
 show Xw xn d Xp ?_ (Xl _ _);show wpAny _ _ (Builtin.Dict.dictSlotArgs "__eq__" ⟨[.ref a,.none],[]⟩>>=_) _ _ s;show yp ?_;unfold Builtin.Dict.dictSlotArgs;show yp (Xq d ?_);show wpAny _ _ (pure (Value.ref a,Value.none)) _ _ s;show yu ?_;show yp (kz (T:="NoneType") (b:=false) rfl PySem.F.sub_NoneType_dict ?_);simp only[kg,xI];show yp (wpAny_rule (yu ⟨_,rfl,c⟩))
theorem none_own{K:yf}{x C:Addr}{ox:Obj}{od:Option Obj}{Q:Value->Shared->Prop}(i:A.units<cLine)(X:K.In s.heap)(I:PySem.W.InstAt s.heap x ox C od)(f:OEq K C)(g:PySem.W.mroIn K C (.type "NoneType")=some false)
  (h:Q (.bool false) s):wpAny (model prog w) A (richCompare .Eq .none (.ref x)) Q E s:=by
 have j:wpAny (model prog w) A (tryCompare .none "__eq__" (.ref x)) (λr s'=>r=none/\s'=s) E s:=by
  unfold tryCompare;show yp ?_;simp only[callSpecialIfBound?,bindSpecialIfBound?];show Yk (yp (yp ?_));show yp (YA (rfl:typeOf .none=pure (.type "NoneType")) ?_);show YA YD.lookup ?_;show yp (ky (wpAny_ite ?_))
  have a:wpAny (model prog w) A (call (.builtin "NoneType.__eq__") ([.none]++[.ref x])>>=λv=>pure (some v)) (λr s'=>wpAny (model prog w) A (match r with | some .notImplemented | none=>pure none | some v=>pure (some v)) (λr s'=>r=none/\s'=s) E s') E s:=
   yp (call_gives YD rfl PySem.F.entry_NoneType_eq (PySem.F.args_NoneType_eq_2 _ _) (SeqAt.NoneType___eq___none_ref_0 x) (yu (yu ⟨rfl,rfl⟩)))
  split
  .show yp (YA (YD.bind .none) (yu a))
  .show wpAny_tryCatch (yp (YA (YD.bind .none) (yu a)))
 have l:wpAny (model prog w) A (tryCompare (.ref x) "__eq__" .none) (λr s'=>r=none/\s'=s) E s:=by
  unfold tryCompare;show yp ?_;simp only[callSpecialIfBound?,bindSpecialIfBound?];show Yk (yp (yp (yp (I.type.here ((Yq X f.eq).here ?_)))));show yp (ky (wpAny_ite ?_));have b:=PySem.F.slot_object_eq.bind (.ref x)
  have c:∀{d:Value->Shared->Prop},d .notImplemented s->wpAny (model prog w) A (call (.builtin "object.__eq__") [.ref x,.none]) d E s:=λ{d} q=>by
   show YZ (xt PySem.F.slot_object_eq.plain PySem.F.entry_object_eq (@PySem.W.check_slot (model prog w) _ _ s "object.__eq__" "object" "__eq__" (.ref x) [.none] [] _ (by room) (by room) (I.type.andThen (YT X f.ob)) (PySem.F.args_object_eq_2 _ _) ?_));show yp (yu (yp (YA (rfl:isSame (.ref x) .none=pure false) ?_)));show yu q
  have a:wpAny (model prog w) A (call (.builtin "object.__eq__") ([.ref x]++[.none])>>=λv=>pure (some v)) (λr s'=>wpAny (model prog w) A (match r with | some .notImplemented | none=>pure none | some v=>pure (some v)) (λr s'=>r=none/\s'=s) E s') E s:=
   yp (c (yu (yu ⟨rfl,rfl⟩)))
  split
  .show yp (YA b (yu a))
  .show wpAny_tryCatch (yp (YA b (yu a)))
 unfold richCompare;show Yk (yp (wpAny_cRoomFor i ?_));show wpAny _ _ (typeOf .none>>=_) _ _ _;show yp (YA (rfl:typeOf .none=pure (.type "NoneType")) (yp (I.type.here ?_)));rw[yB (by rfl)];show yp ((YT X g).here ?_);simp only[kf,ku];show yp (Yd j (λr s' z=>?_) λ_ _ e=>e);obtain⟨rfl,rfl⟩:=z;simp only[kg,xI];show yp (Yd l (λr s' z=>?_) λ_ _ e=>e);obtain⟨rfl,rfl⟩:=z;show yp (wpAny_rule (yp (YA (rfl:isSame .none (.ref x)=pure false) (yu h))))
end
def rNoneRef(K:yf):R2:=λx y H Q=>∃ a,x=.non/\y=.ref a/\((∃ xs,SqL K H a xs\/SqT K H a xs)\/(∃ kvs,H a=some (.dK kvs))\/∃ C dx fs,H a=some (.ins C dx fs)/\OEq K C/\PySem.W.mroIn K C (.type "NoneType")=some false)/\Q (.bl false) H
def qhD(K:yf):R2:=λx y H Q=>qhC K x y H Q\/rNoneRef K x y H Q
theorem qch{X:Cx}{K:yf}(e:X.K=K)(j:X.A.units+100<cLine):OpR X (compareOp .Eq) (qhD K):=by
 intro pins s σ H x y u v Q I f g h;rcases h with h | ⟨a,rfl,rfl,h,q⟩
 .show k_eqW e j pins s σ H x y u v Q I f g h
 .subst e;cases f;cases g;have b:EP X pins σ Q (.bool false) s:=⟨.bl false,H,I,rfl,q⟩;rcases h with⟨xs,hl | hl⟩ | ⟨kvs,c⟩ | ⟨C,dx,fs,c,l,i⟩
  .obtain⟨its,r,pl,_⟩:=I.list hl;show SeqAt.RcAt.none_list pl.isList (by lk) _ _ _ _ b
  .obtain⟨its,r,pl,_⟩:=I.tuple hl;show SeqAt.RcAt.none_tuple pl (by lk) _ _ _ _ b
  .obtain⟨_,_,vs,_,d⟩:=(show ObjOk X.prog X.w H s.heap a (.dK kvs) from I.hok a _ c);show none_dict d.typeIs (by lk) b
  .obtain⟨m,O,_⟩:=qba I.hok c;obtain⟨od,J,_⟩:=O.look;show none_own (by lk) I.kIn J l i b
def XL(K:yf)(C:Addr)(e:List Value):Prop:=∃ m n N bs a sn c d b f g h i j l,K.lookup C=some (excClassObj m n C N bs e a sn c d b f g h i j l "ValueError.__new__")
section
variable{K:yf}{C D:Addr}{bm bn:List Value}
theorem XL.xat(x:XL K C bm)(hb:qcs bm=true)
  (g:PySem.W.findIn K (.ref C) "__getattribute__"=some (some (.builtin "BaseException.__getattribute__"))) (h:PySem.W.findIn K (.ref C) "__getattr__"=some none)
  (b:PySem.W.mroIn K C (.type "BaseException")=some true) (j:PySem.W.mroIn K C (.type "object")=some true) (i:PySem.W.hasDictIn K C=true) (d:PySem.W.findIn K (.ref C) "__class__"=some (some (.builtin "object.__class__")))
  (c:PySem.W.specialIn K (.builtin "object.__class__") "__get__"=some (some (.builtin "getset_descriptor.__get__"))) (ct:PySem.W.takesIn K (.builtin "object.__class__")=some true)
  (l:PySem.W.findIn K (.ref C) "__setattr__"=some (some (.builtin "object.__setattr__"))):XAt K C:=by
 obtain⟨u,v,N,bs,a,sn,m,n,f,o,p,q,r,s,t,e⟩:=x;show⟨g,h,b,j,i,d,c,ct,l,?_,?_⟩
 .unfold PySem.W.clsIn;rw[e];show hb
 .unfold qg4;rw[e];simp[hb]
theorem XL.kit(x:XL K C bm)(y:XL K D bn):PySem.W.kitOne K (.ref C) (.ref D)=some ((Value.ref C::bm).contains (.ref D)):=by
 obtain⟨J,L,N,bs,d,sn,v,A,i,B,E,F,G,H,I,e⟩:=x;obtain⟨q,t,w,h,a,u,f,g,b,j,l,m,n,o,p,c⟩:=y;unfold PySem.W.kitOne PySem.W.kitCls;split
 .rename_i z
  have z:C=D:=XC (yM.mp z);subst z;simp
 .dsimp only;have r:(PySem.W.clsIn K D).isSome=true:=by unfold PySem.W.clsIn;rw[c];rfl
  have s:(PySem.W.typeIn K (.ref D)==some (.type "type"))=true:=by show((K.lookup D).map (·.cls)==_)=true;rw[c];rfl
  rw[yB (by rw[r,s];rfl)];unfold PySem.W.subIn PySem.W.mroIn PySem.W.clsIn;dsimp only;rw[e];rfl
theorem XL.kitT(x:XL K C bm){T:String}(h:PySem.W.kitMeta T=true):PySem.W.kitOne K (.ref C) (.type T)=some (bm.contains (.type T)):=by
 obtain⟨n,o,N,bs,a,sn,c,d,b,f,g,i,j,l,m,e⟩:=x;unfold PySem.W.kitOne PySem.W.kitCls;split
 .rename_i z
  show absurd (yM.mp z) nofun
 .dsimp only;rw[yB h];unfold PySem.W.subIn PySem.W.mroIn PySem.W.clsIn;dsimp only;rw[e];show some ((Value.ref C::bm).contains _)=_;rw[yW];rfl
abbrev qat:List Value:=[.type "ValueError",.type "Exception",.type "BaseException",.type "object"]
theorem qeI:qcs qat=true:=by decide
theorem zF{c:Addr}:qcs (.ref c::qat)=true:=qeI
theorem kits{K:yf}{a:LX}{c:Addr}(n:(a++[c]).Nodup)(h:∀ i,i<a.length->XL K (a.getD i c) (.ref c::qat))(hc:XL K c qat) :
  (∀ i j,i<a.length->j<a.length->PySem.W.kitOne K (.ref (a.getD i c)) (.ref (a.getD j c))=some (decide (i=j)))/\(∀ i,i<a.length+1->PySem.W.kitOne K (.ref (a.getD i c)) (.ref c)=some true) /\
  (∀ i,i<a.length+1->PySem.W.kitOne K (.ref (a.getD i c)) (.type "ValueError")=some true)/\∀ j,j<a.length->PySem.W.kitOne K (.ref c) (.ref (a.getD j c))=some false:=by
 have m:∀(j:Nat) (b:j<a.length),a.getD j c=a[j]:=λj b=>by simp[List.getD,b]
 have hl:a.getD a.length c=c:=by simp
 have g:∀ j,j<a.length->c≠a.getD j c:=λj b e=>by
  have s:=(xL.mp n).2.2 (a.getD j c) (by rw[m j b];show xR b) c (by simp);show s e.symm
 show⟨λi j f b=>?_,λi f=>?_,λi f=>?_,λj b=>?_⟩
 .rw [(h i f).kit (h j b)]
  congr 1
  rw[yW,yW];have l:((Value.ref (a.getD j c))==Value.ref c)=false:=yZ.mpr λe=>g j b (XC e).symm;have p:List.contains qat (Value.ref (a.getD j c))=false:=rfl;rw[l,p];by_cases d:i=j
  .subst d;simp
  .have r:((Value.ref (a.getD j c))==Value.ref (a.getD i c))=false:=yZ.mpr λe=>by
    have e:=XC e;rw[m i f,m j b] at e;have o:=YK.mp (xL.mp n).1;rcases Nat.lt_or_gt_of_ne d with q | q
    .show o i j f b q e.symm
    .show o j i b f q e
   rw[r];simp[d]
 .rcases Nat.lt_or_ge i a.length with hi' | hi'
  .rw [(h i hi').kit hc,yW,yW];simp
  .have:i=a.length:=by lk
   subst this;rw[hl,hc.kit hc];simp
 .rcases Nat.lt_or_ge i a.length with hi' | hi'
  .rw [(h i hi').kitT (by room)];rfl
  .have:i=a.length:=by lk
   subst this;rw[hl,hc.kitT (by room)];rfl
 .rw [hc.kit (h j b),yW];have l:((Value.ref (a.getD j c))==Value.ref c)=false:=yZ.mpr λe=>g j b (XC e).symm;rw[l];rfl
end
end L2
namespace HT
open PySem PySem.Spec PyProof.Rows
section
variable{prog:Program}{w:World}{A:Around}{E:Value->Shared->Prop}{s:Shared}
end
end HT
namespace L2
open PySem PySem.Spec PyProof.Rows
variable{H:Hp}{σ:St}
def tRev(K:yf)(d:TE)(e:TO):TE:=fun σ H Q=>d σ H λx c=>e σ c λo b=>o=some (-1)/\∃ a y z,x=.ref a/\SqT K b a [y,z]/\∀ p,b p=none->Q (.ref p) (upd b p (.tup [z,y]))
theorem vRev{K:yf}{c:TE}{d:TO}{Q:VK}(h:c σ H λx e=>d σ e λo b=>o=some (-1)/\∃ a y z,x=.ref a/\SqT K b a [y,z]/\∀ p,b p=none->Q (.ref p) (upd b p (.tup [z,y]))):tRev K c d σ H Q:=h
section
variable{X:Cx}{K:yf}{e st:Expr}{te:TE}{ts:TO}{p2 pos:Pos}
def rTupleU(K:yf):List V->Hp->VK->Prop:=λxs H Q=>∃ p ys,xs=[.ref p]/\((SqL K H p ys/\∀ l,H l=none->Q (.ref l) (upd H l (.tup ys)))\/(SqT K H p ys/\Q (.ref p) H))
theorem qci(a:X.K=K):zX X (.type "tuple") (rTupleU K):=by subst a;show call_tuple_of
end
def Ite(K:yf)(a:Addr):It:=
 ⟨λi H=>∃ xs x,SqL K H a xs/\xs[i]?=some x,λi H x H'=>∃ t y,x=.ref t/\H t=none/\H'=upd H t (.tup [.int i,y])/\∀ xs,SqL K H a xs->xs[i]?=some y,λi H=>∃ xs,SqL K H a xs/\xs.length<=i⟩
def iEnum(K:yf)(c:TA):TI:=fun σ H R=>c σ H λvs b=>∃ a xs,vs=[.ref a]/\SqL K b a xs/\R (Ite K a) b
theorem vEnum{K:yf}{b:TA}{R:It->Hp->Prop}(h:b σ H λvs c=>∃ a xs,vs=[.ref a]/\SqL K c a xs/\R (Ite K a) c):iEnum K b σ H R:=h
section
variable{X:Cx}
theorem vals_strs(l:List (Str×Tok)):Vals ((l.map (·.1)).map V.str) (strValues l):=by
 induction l with
 | nil=>show .nil
 | cons p r ih=>show .cons ⟨p.2,rfl⟩ ih
def rSplit:V->List V->Hp->VK->Prop:=λx vs H Q=>∃ z y,x=.str z/\vs=[.str y]/\(y.length==0)=false/\z.length+2<=sizeLine/\∀ p,H p=none->Q (.ref p) (upd H p (.lst ((Txt.split z y).map V.str)))
theorem split_any{prog:Program}{w:World}{A:Around}{E:Value->Shared->Prop}{s:Shared}{Q:Value->Shared->Prop}{x y:Str}{t u:Tok}(c:(y.length==0)=false)(hsz:x.length+2<=sizeLine)
  (h:∀(l:List (Str×Tok)) k,l.map (·.1)=Txt.split x y->l.length<=sizeLine->Q (.ref s.heap.objs.size) { s with heap:=s.heap.push { cls:=.type "list",data:=.seq (strValues l).toArray },toks:=k }) :
  wpAny (model prog w) A (call (.builtin "str.split") [.str x t,.str y u]) Q E s:=by
 have b:(Builtin.Str.partsBetween x (Builtin.Str.occurrences x y 0 x.length (x.length+1)) y.length).length<=sizeLine:=by
  have d:=StrLaws.occ_length_le x y 0 x.length (x.length+1);rw[length_partsBetween];lk
 cases h1:(decide (x.length<y.length)||decide (Builtin.Str.strKind x<Builtin.Str.strKind y))
 .cases a:(Builtin.Str.occurrences x y 0 x.length (x.length+1)).isEmpty
  .show xi kA (xY _ _ _) kn (kh _ _) (meets_str_split_sep x y t u h1 c a (by lk) b) ?_;show wants Q E _ { s with toks:=_,heap:=s.heap.push { cls:=.type "list",data:=.seq (strsFrom s.toks (Builtin.Str.partsBetween x (Builtin.Str.occurrences x y 0 x.length (x.length+1)) y.length)).toArray } };rw[strsFrom_eq];have e:=(numbered_texts s.toks (Builtin.Str.partsBetween x (Builtin.Str.occurrences x y 0 x.length (x.length+1)) y.length));show h (numbered s.toks _) _ (e.trans ((yw (XV h1)).trans (yw (XV a))).symm) (by rw[<- ya (f:=(·.1)),e];show b)
  .show xi kA (xY _ _ _) kn (kh _ _) (meets_str_split_not_found x y t u h1 c a)
    (h [(x,t)] s.toks ((yw (XV h1)).trans (yB a)).symm wq0)
 .show xi kA (xY _ _ _) kn (kh _ _) (meets_str_split_cannot_occur x y t u h1)
   (h [(x,t)] s.toks (yB h1).symm wq0)
theorem mt_split:MtR X "str.split" rSplit:=by
 intro a s σ H x vs v us Q I i g h;obtain⟨z,y,rfl,rfl,c,d,q⟩:=h;obtain⟨t,rfl⟩:=i;obtain⟨u,rfl,f⟩:=g.one;obtain⟨j,rfl⟩:=f;show split_any c d λl k e hl=>?_;show⟨.ref _,_,I.laid (o:=.lst ((Txt.split z y).map V.str)) (λb o e=>yq _ e) (yg _) ?_,rfl,q _ (I.hok.fresh (yg _))⟩;rw[<- e];show⟨by rw[ya,ya];show hl,_,_,vals_strs l,yI _ rfl⟩
end
end L2
namespace L2
open PySem PySem.Spec PyProof.Rows PySem.Builtin PySem.Builtin.Str
theorem qcj(a b:Str):(a++b).cps.toList=a.cps.toList++b.cps.toList:=by
 show(a.cps++b.cps).toList=_;show Array.toList_append
def jl(c:LQ):List (LQ)->LQ
 | []=>[]
 | [x]=>x
 | x::y::r=>x++c++jl c (y::r)
theorem qdo(z:Str):∀ xs:LN,(Str.join z xs).cps.toList=jl z.cps.toList (xs.map (·.cps.toList))
 | []=>rfl
 | [x]=>rfl
 | x::y::r=>by
  show(x++z++Str.join z (y::r)).cps.toList=x.cps.toList++z.cps.toList++jl z.cps.toList ((y::r).map (·.cps.toList));rw[qcj,qcj,qdo z (y::r)]
theorem vDGet2{e ty f:TE}{b:St}{H:Hp}{Q:VK}(h:e b H λx c=>∃ a,x=.ref a/\IsD c a/\ty b c λy g=>f b g λz d=>∃ o,DGet d a y o/\Q (o.getD z) d):tDGet2 e ty f b H Q:=h
end L2
namespace L2
open PySem PySem.Spec PyProof.Rows
theorem qdR(a b:Str):eqV (.str a) (.str b)=decide (a=b):=by
 have e:eqV (.str a) (.str b)=(a==b):=by simp[eqV]
 rw[e,Yn,yM,yX]
theorem qcT:∀(ys:LN) (y:Str) (m:Nat) (b:m<ys.length),m<ys.idxOf y->ys[m]≠y
 | [],_,_,b,_=>by simp at b
 | a::r,y,m,b,h=>by
  rw[List.idxOf_cons] at h;by_cases e:a=y
  .subst e;simp at h
  .have hb:(a==y)=false:=yZ.mpr e;rw[hb] at h
   cases m with
   | zero=>show e
   | succ k =>
    have c:k<r.idxOf y:=by
     have h:k+1<r.idxOf y+1:=h;lk
    show qcT r y k (by simpa using b) c
section
variable{X:Cx}{K:yf}
def rIndex(K:yf):V->List V->Hp->VK->Prop:=λx vs H Q=>∃(p:Addr) (ys:LN) (y:Str),x=.ref p/\vs=[.str y]/\SqL K H p (ys.map V.str)/\y∈ys/\Q (.int (ys.idxOf y:Nat)) H
theorem k_index(B:X.K=K):MtR X "list.index" (rIndex K):=by
 subst B;intro z s O H x vs v us Q I L J h;obtain⟨p,ys,y,rfl,rfl,C,E,q⟩:=h;cases L;obtain⟨u,rfl,G⟩:=J.one;obtain⟨a,r,pl,t⟩:=I.list C;obtain⟨⟨cls,A,data,M⟩,o,hc,n,l⟩:=id pl.isList;simp only at hc l;subst hc l;have fs:(ys.map V.str).all qM=true:=by rw[kB];show Yo.mpr λ_ _=>rfl
 have b:(ys.map V.str).length=a.length:=r.length;rw[ya] at b;have d:ys.idxOf y<ys.length:=List.idxOf_lt_length_iff.mpr E
 have at_:∀(m:Nat) (i:m<ys.length) (c:m<a.toArray.size),eqU (.str y) a.toArray[m]=decide (ys[m]=y):=λm i c=>by
  have g:(ys.map V.str)[m]?=some (.str ys[m]):=by rw[yd,yb i];rfl
  obtain⟨w,hw,j⟩:=r.get g
  have e:a.toArray[m]=w:=by
   have:a.toArray[m]?=some w:=by simpa using hw
   rw[xo c] at this;show yl this
  rw[e,qeu j rfl,qdR]
 have N:ys.length<=sizeLine:=by rw[ya] at t;show t
 have D:sizeLine<2 ^ 63-1:=by decide
 show xi PySem.F.slot_list_index ⟨_,o,rfl⟩ PySem.F.entry_list_index (PySem.F.args_list_index_2 _ _)
  (SeqAt.list_indexAt p a.toArray n A M u (eqU (.str y)) (ys.idxOf y) (by simpa [<- b] using d) (by lk) ?_ ?_) ⟨o,λw hw=>qal G rfl r fs w (by simpa using hw),.int _,H,I.tok _,⟨_,rfl⟩,q⟩
 .rw [at_ _ d];show yL (YM d)
 .intro m i f;rw[at_ m (by lk)];show yk λe=>qcT ys y m (by lk) f e
end
theorem slice_ixD(k n:Nat):Builtin.Str.strSliceIndices (some (k:Int)) none 1 n=(List.range (n-k)).map (k + ·):=by
 unfold Builtin.Str.strSliceIndices sliceRange;simp only[show(1:Int)>0 by decide,xI];rw[yw (show ¬ ((k:Int)<0) by lk)];have a:max 0 (min (k:Int) n)=((min k n:Nat):Int):=by lk
 rw[a];by_cases c:k<=n
 .rw [xW c];have b:(λ(j:Nat)=>((k:Int)+1*(j:Int)).toNat)=(k + ·):=by funext j;lk
  rw[b]
  congr 2
  split
  .rw [kI];lk
  .omega
 .rw [Xy (by lk),show n-k=0 by lk];rw[yw (by lk)];rfl
theorem qeJ(a:Array Nat)(k:Nat):∀ m,k+m<=a.size->((List.range m).map (k + ·)).filterMap (a[·]?)=(a.toList.drop k).take m
 | 0,_=>by simp
 | m+1,h=>by
  rw[xX,yD,Xr,qeJ a k m (by lk),yT]
  congr 1
  have e:a[k+m]?=some a[k+m]:=xo (by lk);have b:(a.toList.drop k)[m]?=some a[k+m]:=by rw[ki,xH];show e
  rw[b,yP,Yv,e];rfl
theorem slice_drop(z:Str)(k:Nat):(Txt.slice z (some (k:Int)) none).cps.toList=z.cps.toList.drop k:=by
 unfold Txt.slice;rw[slice_ixD];have b:z.length=z.cps.toList.length:=by simp[Str.length]
 split
 .rename_i h
  rw[ya,xu] at h;have h:z.length-k=z.length:=by simpa using h
  by_cases a:k=0
  .subst a;rw[kF]
  .have:z.cps.toList=[]:=List.length_eq_zero_iff.mp (by lk);rw[this];simp
 .show(List.filterMap _ _).toArray.toList=_;by_cases a:k<=z.length
  .have:=qeJ z.cps k (z.length-k) (by show k+(z.length-k)<=z.length;lk);rw[this];show Yu (by rw[xQ];lk)
  .rw [show z.length-k=0 by lk,List.drop_of_length_le (by lk)];rfl
theorem slice_len(z:Str)(lo a:Option Int):(Txt.slice z lo a).length<=z.length:=XZ z lo a
theorem cutV_take(xs:List V)(k:Nat):qbm xs none (some (k:Int))=xs.take k:=by
 unfold qbm;rw[HT.sIx_none,HT.sIx_nat,kF,Nat.sub_zero];by_cases h:k<=xs.length
 .rw [xW h]
 .rw [Xy (by lk),Yu (yg _),Yu (by lk)]
theorem qcU(xs:List V)(k:Nat):qbm xs (some (k:Int)) none=xs.drop k:=by
 unfold qbm;rw[HT.sIx_none,HT.sIx_nat];by_cases h:k<=xs.length
 .rw [xW h,Yu (by rw[xQ];lk)]
 .rw [Xy (by lk),Xz,List.drop_of_length_le (by lk)];simp
section
variable{X:Cx}{K:yf}
end
end L2
namespace HT
open PySem PySem.Spec PyProof.Rows
section
variable{prog:Program}{w:World}{A:Around}{E:Value->Shared->Prop}{s:Shared}
end
end HT
namespace L2
open PySem PySem.Spec PyProof.Rows
def tStep(K:yf)(e:TE)(f:TO):TE:=λc H Q=>e c H λx d=>f c d λo b=>∃ a y z,x=.ref a/\SqT K b a [y,z]/\((o=some (-1)/\∀ p,b p=none->Q (.ref p) (upd b p (.tup [z,y])))\/(o=some 1/\Q (.ref a) b))
theorem vStep{K:yf}{d:TE}{e:TO}{c:St}{H:Hp}{Q:VK}(h:d c H λx f=>e c f λo b=>∃ a y z,x=.ref a/\SqT K b a [y,z]/\((o=some (-1)/\∀ p,b p=none->Q (.ref p) (upd b p (.tup [z,y])))\/(o=some 1/\Q (.ref a) b))):tStep K d e c H Q:=h
section
variable{X:Cx}{K:yf}{e st:Expr}{te:TE}{ts:TO}{p2 pos:Pos}
end
def FG(K:yf)(a:Str)(st:Stmt):Prop:=∃ f b,PySem.W.nsIn K mainGlobals a=some (some (.ref f))/\Fun K a a st f b
def FM(K:yf)(C:Addr)(m b:Str)(st:Stmt):Prop:=∃ f a,PySem.W.findIn K (.ref C) m=some (some (.ref f))/\PySem.W.isFn K (.ref f)=true/\Fun K m b st f a
def FC(K:yf)(C:Addr)(m b:Str)(st:Stmt):Prop:=∃ f a,PySem.W.findCls K (.ref C) (.type "type") m=some (.val (.ref f))/\Fun K m b st f a
structure XQ(K:yf)(C:Addr):Prop where
 xa:PySem.W.findIn K (.ref C) "__getattribute__"=some (some (.builtin "BaseException.__getattribute__"))
 xb:PySem.W.findIn K (.ref C) "__getattr__"=some none
 xd:PySem.W.mroIn K C (.type "BaseException")=some true
 xe:PySem.W.mroIn K C (.type "object")=some true
 xf:PySem.W.hasDictIn K C=true
 xg:PySem.W.findIn K (.ref C) "__class__"=some (some (.builtin "object.__class__"))
 xh:PySem.W.findIn K (.ref C) "__setattr__"=some (some (.builtin "object.__setattr__"))
 p:PySem.W.keepIn K (.ref C)=true
section
variable{P:Program}{w:World}{K:yf}{mg:Str->Option Value}{base h:Heap}{CX:CXT}{k:Nat}{sp:Sp}{st:Stmt}{f:Addr}{fd:FuncData}{ps:LN}{nm m ql x:Str}{C:Addr}
theorem lN0{P:List Value->Prop}(h:P []):∀ us:List Value,us.length=0->P us:=λus e=>by rw[List.eq_nil_of_length_eq_zero e];show h
theorem lNs{P:List Value->Prop}{n:Nat}(h:∀ a r,r.length=n->P (a::r)):∀ us:List Value,us.length=n+1->P us:=λus e=>by
 cases us with
 |nil=>cases e
 |cons a r=>show h a r (Nat.succ.inj e)
theorem lN1{P:List Value->Prop}(h:∀ a,P [a]):∀ us:List Value,us.length=1->P us:=lNs λa=>lN0 (h a)
theorem lN2{P:List Value->Prop}(h:∀ a b,P [a,b]):∀ us:List Value,us.length=2->P us:=lNs λa=>lN1 (h a)
theorem lN3{P:List Value->Prop}(h:∀ a b c,P [a,b,c]):∀ us:List Value,us.length=3->P us:=lNs λa=>lN2 (h a)
theorem lN4{P:List Value->Prop}(h:∀ a b c d,P [a,b,c,d]):∀ us:List Value,us.length=4->P us:=lNs λa=>lN3 (h a)
theorem lN5{P:List Value->Prop}(h:∀ a b c d e,P [a,b,c,d,e]):∀ us:List Value,us.length=5->P us:=lNs λa=>lN4 (h a)
theorem lN6{P:List Value->Prop}(h:∀ a b c d e g,P [a,b,c,d,e,g]):∀ us:List Value,us.length=6->P us:=lNs λa=>lN5 (h a)
abbrev BA(x ql:Str)(st:Stmt)(ps:LN):Prop:=∀(kV b d:Value) (c:Option Addr) (a ct:Value) (us:List Value),us.length=ps.length->bindArgs (PySem.W.fnOf x ql (qay st) (jJ st) (qd st) .none kV b d c a ct) ⟨us,[]⟩=pure (ps.zip us)
theorem fg_mk(X:K.In h)(G:h.Ns mainGlobals mg)(a:PySem.W.nsIn K mainGlobals nm=some (some (.ref f)))(F:Fun K nm nm st f fd)(o:FnOk P w K mg base CX k f fd ps sp)
  (hb:BA nm nm st ps:=by first | (show λ_ _ _ _ _ _=>lN1 λ_=>rfl) | (show λ_ _ _ _ _ _=>lN2 λ_ _=>rfl) | (show λ_ _ _ _ _ _=>lN3 λ_ _ _=>rfl) | (show λ_ _ _ _ _ _=>lN4 λ_ _ _ _=>rfl)) :
  DefOk P w K mg base CX k nm ps sp:=⟨_,_,o,kr X G a,F.kp,F.binds hb⟩
theorem fm_mk(b:Cls K C)(a:PySem.W.findIn K (.ref C) m=some (some (.ref f)))(n:PySem.W.isFn K (.ref f)=true)(F:Fun K m ql st f fd)(o:FnOk P w K mg base CX k f fd ps sp)
  (hb:BA m ql st ps:=by first | (show λ_ _ _ _ _ _=>lN1 λ_=>rfl) | (show λ_ _ _ _ _ _=>lN2 λ_ _=>rfl) | (show λ_ _ _ _ _ _=>lN3 λ_ _ _=>rfl) | (show λ_ _ _ _ _ _=>lN4 λ_ _ _ _=>rfl)) :
  MethOk P w K mg base CX k C m ps sp:=⟨⟨_,_,o,⟨a,n,F.kp⟩,F.binds hb⟩,b⟩
theorem fw_mk(X:K.In h)(G:h.Ns mainGlobals mg)(c:PySem.W.nsIn K mainGlobals x=some (some (.ref C)))(b:PySem.W.makesIn K C=true)(d:PySem.W.keepIn K (.ref C)=true)(a:PySem.W.findIn K (.ref C) "__init__"=some (some (.ref f)))(n:PySem.W.isFn K (.ref f)=true)(F:Fun K "__init__" ql st f fd)(o:FnOk P w K mg base CX k f fd ps sp)
  (hb:BA "__init__" ql st ps:=by first | (show λ_ _ _ _ _ _=>lN1 λ_=>rfl) | (show λ_ _ _ _ _ _=>lN2 λ_ _=>rfl) | (show λ_ _ _ _ _ _=>lN3 λ_ _ _=>rfl)) :
  MakeOk P w K mg base CX k C x ps sp:=⟨⟨_,_,o,⟨b,a,n,d⟩,F.binds hb⟩,kr X G c⟩
theorem qck(X:K.In h)(G:h.Ns mainGlobals mg)(c:PySem.W.nsIn K mainGlobals x=some (some (.ref C)))(Y:XAt K C)(q:XQ K C)(a:PySem.W.findIn K (.ref C) "__init__"=some (some (.ref f)))(n:PySem.W.isFn K (.ref f)=true)(F:Fun K "__init__" ql st f fd)(o:wqY k f fd ps sp)
  (hb:BA "__init__" ql st ps:=by first | (show λ_ _ _ _ _ _=>lN1 λ_=>rfl) | (show λ_ _ _ _ _ _=>lN2 λ_ _=>rfl)) :
  XMakeOk P w K mg base k C x ps sp:=⟨⟨_,_,o,⟨Y,a,n,q.p⟩,F.binds hb⟩,kr X G c⟩
theorem fc_mk(X:K.In h)(G:h.Ns mainGlobals mg)(c:PySem.W.nsIn K mainGlobals x=some (some (.ref C)))(a:PySem.W.readsIn K C (.type "type")=true)(b:PySem.W.findCls K (.ref C) (.type "type") m=some (.val (.ref f)))(d:PySem.W.specialIn K (.ref C) "__getattribute__"=some (some (.builtin "type.__getattribute__")))(F:Fun K m ql st f fd)(o:FnOk P w K mg base CX k f fd ps sp)
  (hb:BA m ql st ps:=by(show λ_ _ _ _ _ _=>lN2 λ_ _=>rfl)) :
  CMethOk P w K mg base CX k C x m ps sp:=⟨⟨_,_,o,⟨a,b,d,F.kp⟩,F.binds hb⟩,kr X G c⟩
theorem qbV{c:List Value}(x:XL K C c)(hb:qcs c=true)(q:XQ K C)(a:PySem.W.specialIn K (.builtin "object.__class__") "__get__"=some (some (.builtin "getset_descriptor.__get__")))(b:PySem.W.takesIn K (.builtin "object.__class__")=some true):XAt K C:=x.xat hb q.xa q.xb q.xd q.xe q.xf q.xg a b q.xh
end
end L2
namespace HT
open PySem PySem.Spec PyProof.Rows
section
variable{prog:Program}{w:World}{A:Around}{E:Value->Shared->Prop}{s:Shared}
theorem assign_Tuple_list{env:Env}{b:List Expr}{x1}{pos:Pos}{l:Addr}{a:Array Value}{Q:Unit->Shared->Prop}(d:A.handled=none)(hl:s.heap.IsList l a)
  (e:(assignEach b env).length=a.size) (c:(assignEach b env).findIdx? (·.1)=none)
  (h:∀ h',Heap.ExtBut s.heap.objs.size s.heap h'->wpAny (model prog w) A (assignInOrder ((assignEach b env).map (·.2)) a.toList) Q E { s with heap:=h' }) :
  wpAny (model prog w) A (assign (.Tuple b x1 pos) env (.ref l)) Q E s:=by
 rw[assign_Tuple];show yp (xG ?_);unfold unpack;rw[e,c];show yp (Yk (PySem.W.kun_itemsOf d hl h))
end
end HT
namespace L2
open PySem PySem.Spec PyProof.Rows
variable{A:Around}{H:Hp}{a:Addr}{b:Str}{n:Nat}{s:Shared}{u:Tok}{σ:St}
def qf2(K:yf)(n:Nat)(t:TGs):TG:=λv σ H Q=>∃ a xs,v=.ref a/\(SqT K H a xs\/SqL K H a xs)/\xs.length=n/\t xs σ H Q
theorem qf3{b:TE}{K:yf}{a:TGs}{D:Ends}(h:b σ H λx c=>qf2 K n a x σ c D.nx):qfX b (qf2 K n a) D σ H:=h
section
variable{X:Cx}{K:yf}{pos p:Pos}{x:Str}
theorem qdp{f:List Expr}{k:Nat}{t:TGs}(hc:X.calm=true)(h:PGs X f t)
  (i:(assignEach f X.env).length=n:=by rfl) (d:(assignEach f X.env).findIdx? (·.1)=none:=by rfl):PG X (.Tuple f k pos) (qf2 X.K n t):=by
 intro c s σ H v u Q I r hw;obtain⟨a,xs,g,hq,hl,hw⟩:=hw;rcases hq with hq | hq
 .show qfp hc h i d c s σ H v u Q I r ⟨a,xs,g,hq,hl,hw⟩
 .subst g;cases r;obtain⟨q,j,m,w⟩:=I.list hq;show HT.assign_Tuple_list (I.ok.hd hc) m.isList (by simp[i,<- hl,j.length]) d λh' p=>?_;have l:Inv X c σ H { s with heap:=h' }:=I.kept (t':=s.toks) λb o e=>p b o (yG (yy e)) e;show h c _ σ H xs _ Q l (by simpa using j) hw
end
section
variable{X:Cx}{K:yf}{e lo st:Expr}{te:TE}{tl ts:TO}{p2 pos:Pos}
end
section
variable{X:Cx}{K:yf}{e st:Expr}{te:TE}{ts:TO}{p2 pos:Pos}
def qhE:HO->Bool
 | .lst _=>true
 | .tup _=>true
 | .dK _=>true
 | _=>false
def qgL(K:yf):R2:=λx y H Q=>qgK K true x y H Q\/∃(p:Addr) (xs:LN) (b:Addr) (o:HO),y=.ref p/\SqL K H p (xs.map V.str)/\x=.ref b/\H b=some o/\qhE o=true/\Q (.bl true) H
theorem str_declines_dict(b:Str)(u:Tok)(l:Addr)(c:Value)(a:Option Addr)(e:Array DictEntry)(ep:Nat)(f:Array (Option Value)) :
  Meets (Builtin.«str.__eq__» ⟨[.str b u,.ref l],[]⟩) (λ_ R s=>s.heap.get? l=some { cls:=c,dict:=a,data:=.dict e ep,slots:=f }/\R (.ok (.ret .notImplemented)) s):=
 .of_wp λprog w A R s h=>by obtain⟨i,g,d,tk,j⟩:=s;obtain⟨hl,h⟩:=h;wp_walk using wpAny_loadPart' hl,wpAny_load hl;show⟨_,rfl,h⟩
theorem str_dict{c:Value}{g:Option Addr}{i:Array DictEntry}{ep:Nat}{j:Array (Option Value)}(l:s.heap.get? a=some { cls:=c,dict:=g,data:=.dict i ep,slots:=j })(e:s.TypeIs (.ref a) "dict")(m:A.units<cLine):SeqAt.EqAt A s (.str b u) (.ref a) false:=λprog w E Q h=>by
 unfold eqBool;show Yk ?_;show wpAny_ite_split (λf=>absurd (eq_of_beq f) nofun) (λ_=>?_);show yp ?_;show Xk (k:=false) (xY s b u) e (by decide) PySem.F.sub_dict_str PySem.F.slot_str_eq xn
  (λ_ d=>xi PySem.F.slot_str_eq (xY s b u) PySem.F.entry_str_eq (PySem.F.args_str_eq_2 _ _) (str_declines_dict b u a c g i ep j) ⟨l,d⟩) (λn d=>?_) (λ_ d=>YA (rfl:isSame (.str b u) (.ref a)=pure false) d) (.inr m) (Yy h)
 show Xw xn e Xp ?_ (Xl _ _);show wpAny _ _ (Builtin.Dict.dictSlotArgs "__eq__" ⟨[.ref a,.str b u],[]⟩>>=_) _ _ s;show yp ?_;unfold Builtin.Dict.dictSlotArgs;show yp (Xq e ?_);show wpAny _ _ (pure (Value.ref a,Value.str b u)) _ _ s;show yu ?_;show yp (kz (T:="str") (b:=false) rfl PySem.F.sub_str_dict ?_);simp only[kg,xI];show yp (wpAny_rule (yu ⟨_,rfl,d⟩))
theorem str_obj{e:List (Addr×Obj)}{o:HO}(I:Inv X e σ H s)(f:H a=some o)(m:qhE o=true)(g:A.units<cLine):SeqAt.EqAt A s (.str b u) (.ref a) false:=by
 cases o with
 | lst xs =>
  obtain⟨h,r,pl,_⟩:=I.list (SqL.of (K:=X.K) f);show SeqAt.EqAt.str_list b u pl.isList g
 | tup xs =>
  obtain⟨h,r,pl,_⟩:=I.tuple (SqT.of (K:=X.K) f);show SeqAt.EqAt.str_tuple b u pl g
 | dK kvs =>
  obtain⟨_,_,vs,_,i⟩:=qgy I.hok f;have l:=i.typeIs;obtain⟨⟨c,d,data,q⟩,n,ep,h1,p,j,_⟩:=i;cases j;show str_dict h1 l g
 | _=>cases m
theorem k_notinX(f:X.K=K)(n:X.A.units+100<cLine):OpR X (compareOp .NotIn) (qgL K):=by
 intro c s σ H x y u v Q I i l h;rcases h with h | ⟨p,xs,b,o,rfl,hl,rfl,hb,ho,q⟩
 .show qaU f n c s σ H x y u v Q I i l h
 .subst f;cases i;cases l;obtain⟨a,r,pl,g⟩:=I.list hl;show ke (λ_=>false) pl.isList (λB hw=>?_) ?_
  .have d:B∈a:=by simpa using hw
   obtain⟨j,m⟩:=Xo.mp d;obtain⟨z,g,w⟩:=qX r m;obtain⟨t,_,rfl⟩:=yK.mp (ye g);obtain⟨tk,rfl⟩:=w;show str_obj I hb ho (by show X.A.units+1<cLine;lk)
  .have e:a.toArray.any (λ_=>false)=false:=by simp
   rw[e];show⟨.bl true,H,I,rfl,q⟩
end
section
variable{X:Cx}{a:Expr}{ta:TA}{p p2 pos pos2:Pos}
end
section
variable{prog:Program}{w:World}{A:Around}{E:Value->Shared->Prop}{s:Shared}
end
end L2
namespace L2
open PySem PySem.Spec PyProof.Rows PySem.Builtin PySem.Builtin.Str
end L2
namespace L2
structure Sb(V:Nat->Prop):Prop where
 z:V 0
 a:∀ x y,V x->V y->V (x ^^^ y)
def jn(V:Nat->Prop)(x:Nat):Nat->Prop:=λy=>V y\/V (y ^^^ x)
def Spn:LQ->Nat->Prop
 | []=>λy=>y=0
 | a::L=>jn (Spn L) a
open Classical in
def Bnd(b n v:Nat):Prop:=∀ i,v.testBit i=true->b<=i/\i<b+n
open Classical in
def swp:Nat->Nat->LQ->Nat
 | 0,_,_=>0
 | n+1,b,L=>match L.filter (λv=>v.testBit b) with
  | []=>swp n (b+1) L
  | p::t=>1+swp n (b+1) (L.filter (λv=>!v.testBit b)++t.map λv=>v ^^^ p)
open Classical in
def rk(L:LQ):Nat:=swp 30 0 L
open Classical in
structure Ech(os:List (Nat×Nat)):Prop where
 nz:∀ o∈os,o.1≠0
 pw:os.Pairwise λa b=>b.1.testBit a.1.log2=false
def csm:LQ->Nat->Nat->Nat
 | [],_,_=>0
 | a::L,k,c=>(if c.testBit k then a else 0) ^^^ csm L (k+1) c
structure Stp(L:LQ)(n:Nat)(st:List (Nat×Nat)):Prop where
 ech:Ech st
 sum:∀ o∈st,csm L 0 o.2=o.1
 low:∀ o∈st,o.2<2 ^ n
 lt:∀ o∈st,o.1<2 ^ 30
 spn:∀ v,Spn (st.map (·.1)) v↔Spn (L.take n) v
 free:st.map (λo=>o.2.log2)=(List.range n).filter λi=>decide (rk (L.take i)<rk (L.take (i+1)))
 len:st.length<=n
end L2
namespace L2
open PySem PySem.Spec PyProof.Rows
section
variable{X:Cx}
end
def Fl:V->Prop
 | .non=>True
 | .bl _=>True
 | .int i=>-999999999999<=i/\i<=999999999999
 | _=>False
def fD:V->PyData
 | .non=>.none
 | .bl b=>.bool b
 | .int i=>.int i
 | .str x=>.str x
 | _=>.none
def FlS(xs:List V):Prop:=xs.length<=1000/\∀ x∈xs,Fl x
def ShwT(H:Hp)(v:V)(t:Str):Prop:=match v with
 | .non=>t="None"
 | .bl b=>t=if b then Str.ofString "True" else Str.ofString "False"
 | .int i=>i.natAbs.log2<1920/\t=toString i
 | .str x=>(reprText x).length<=sizeLine/\t=reprText x
 | .ref p=>(∃ xs,H p=some (.lst xs)/\FlS xs/\t=(PyData.list (xs.map fD)).shown)\/∃ xs,H p=some (.tup xs)/\FlS xs/\t=(PyData.tuple (xs.map fD)).shown
 | _=>False
section
variable{X:Cx}{K:yf}
end
section
variable{K:yf}{a:Addr}{xs:List V}{g:TG}{tc:TT}{te:TE}{σ':St}{H1:Hp}{Q:V->Hp->Prop}
end
section
variable{K:yf}{a b:Addr}{xs ys:List V}{g:TG}{tc:TT}{te:TE}{σ':St}{H1:Hp}{Q:V->Hp->Prop}
end
section
variable{X:Cx}{K:yf}
end
section
variable{X:Cx}{K:yf}{e st:Expr}{te:TE}{ts:TO}{p2 pos:Pos}
end
mutual
inductive Dat(H:Hp):V->PyData->Prop
 | non:Dat H .non .none
 | bl (b:Bool):Dat H (.bl b) (.bool b)
 | int (i:Int):Dat H (.int i) (.int i)
 | str (x:Str):Dat H (.str x) (.str x)
 | lst {a:Addr} {xs:List V} {ds:List PyData}:H a=some (.lst xs)->DatS H xs ds->Dat H (.ref a) (.list ds)
 | tup {a:Addr} {xs:List V} {ds:List PyData}:H a=some (.tup xs)->DatS H xs ds->Dat H (.ref a) (.tuple ds)
 | dnil {a:Addr}:H a=some (.dK [])->Dat H (.ref a) (.dict [])
inductive DatS(H:Hp):List V->List PyData->Prop
 | nil:DatS H [] []
 | cons {v:V} {vs:List V} {d:PyData} {ds:List PyData}:Dat H v d->DatS H vs ds->DatS H (v::vs) (d::ds)
end
structure Shw(d:PyData)(n m:Nat):Prop where
 s:d.showable=true
 l:d.leavesShort 13=true
 b:d.bulk<=n
 p:d.depth<=m
structure ShwS(ds:List PyData)(n m:Nat):Prop where
 s:PyData.showableAll ds=true
 l:PyData.leavesShortAll 13 ds=true
 b:PyData.bulkAll ds<=n
 p:PyData.depthAll ds<=m
section
variable{X:Cx}{K:yf}{pins:List (Addr×Obj)}{σ:List (Option V)}{H:Hp}{s:Shared}
end
section
variable{X:Cx}{tg elt iter:Expr}{ifs:List Expr}{scope sc1:Scope}{pos:Pos}{N N1:LN}{nl:Nat}{ixs:LQ}{wi:TI}{g:TG}{tc:TT}{te:TE}{C1:Addr}{s1:Shared}{H1:Hp}{ex1:LX}
end
section
variable{X:Cx}{K:yf}
end
section
variable{prog:Program}{w:World}{A:Around}{E:Value->Shared->Prop}{s:Shared}
abbrev IsZp(h:Heap)(z TI TO:Addr)(b:Value)(a:Bool):Prop:=h.get? z=some { cls:=.type "zip",dict:=none,data:=.fields #[b,.bool a,.bool false,.ref TI,.ref TO],slots:=#[] }
def ZAt(z TI TO N:Nat)(h:Heap):Prop:=IsZip h z TI TO .none\/∃ T a o,N<=T/\IsZp h z TI TO (rawInt (T:Nat)) a/\h.get? T=some o
end
structure LZ(z TI TO i1 i2 a b S N:Nat)(xs ys:Array Value)(h0:Heap)(i:Nat)(acc:Array Value)(c:Nat)(h:Heap):Prop where
 zp:ZAt z TI TO N h
 ti:IsPair h TI (.ref i1) (.ref i2)
 tO:∃ u v,IsPair h TO u v
 j1:h.IsListIter i1 a i
 j2:h.IsListIter i2 b i
 la:h.IsList a xs
 lb:h.IsList b ys
 ls:h.get? S=some { cls:=.type "list",dict:=none,data:=.seq acc c,slots:=#[] }
 sz:N<=h.objs.size
 len:acc.size=i
 its:∀(j:Nat) v,acc[j]?=some v->∃ t x y,v=.ref t/\N<=t/\IsPair h t x y/\xs[j]?=some x/\ys[j]?=some y
 nd:∀(j k:Nat) v,acc[j]?=some v->acc[k]?=some v->j=k
 kp:∀ q o,q<N->q≠z->q≠TO->q≠i1->q≠i2->q≠S->h0.get? q=some o->h.get? q=some o
structure LE(z TO i1 i2 S N:Nat)(xs ys:Array Value)(h0:Heap)(n:Nat)(acc:Array Value)(c:Nat)(h:Heap):Prop where
 ls:h.get? S=some { cls:=.type "list",dict:=none,data:=.seq acc c,slots:=#[] }
 len:acc.size=n
 its:∀(j:Nat) v,acc[j]?=some v->∃ t x y,v=.ref t/\N<=t/\IsPair h t x y/\xs[j]?=some x/\ys[j]?=some y
 nd:∀(j k:Nat) v,acc[j]?=some v->acc[k]?=some v->j=k
 kp:∀ q o,q<N->q≠z->q≠TO->q≠i1->q≠i2->q≠S->h0.get? q=some o->h.get? q=some o
structure LA(z TI TO i1 i2 a b S N:Nat):Prop where
 D:ZipApart z TI TO i1 i2 a b
 lt:z<S/\TI<S/\TO<S/\i1<S/\i2<S/\a<S/\b<S
 S:S<N
section
variable{prog:Program}{w:World}{A:Around}{R:Result->Shared->Prop}{z TI TO i1 i2 a b S N:Nat}{xs ys:Array Value}{h0:Heap}
end
section
variable{prog:Program}{w:World}{A:Around}{E:Value->Shared->Prop}{s:Shared}
end
structure Zl(H H':Hp)(l:Addr)(ts:LX)(xs ys:List V):Prop where
 sm:L2.Same H H'
 fl:H l=none
 ls:H' l=some (.lst (ts.map V.ref))
 len:ts.length=min xs.length ys.length
 tp:∀(j:Nat) t,ts[j]?=some t->H t=none/\∃ x y,xs[j]?=some x/\ys[j]?=some y/\H' t=some (.tup [x,y])
end L2
namespace L2
open PySem PySem.Spec PyProof.Rows PySem.W
variable{H:Hp}{P:Program}{h:Heap}{w:World}
def LsO(a:Addr)(xs:Array Value)(e:Nat):HO:=.ext λh=>h.get? a=some (seqObj "list" xs e)
section
variable{M:Model}{A:Around}{E:Value->Shared->Prop}{s:Shared}{a kl:Addr}{ws:List Value}{zk:LY}{kx:Array Value}{e e1:Nat}{P:PySem.Fin->Shared->Prop}
end
def KSo(a:LY)(xs ys:List V):Prop:=∃ ps:List (Int×V),ps.Perm (a.zip xs)/\ys=ps.map Prod.snd/\ps.Pairwise λp q=>p.1<=q.1
section
variable{X:Cx}{pins:List (Addr×Obj)}{σ:St}{H:Hp}{s:Shared}{E:Value->Shared->Prop}
theorem Same.put{a:Hp}{x:Addr}{o:HO}(h:L2.Same a H)(n:a x=none):L2.Same a (upd H x o):=λc u e=>by
 rw[qh (λz=>by rw[z,n] at e;cases e)];show h c u e
end
def CdO(c:Addr)(q:Str):HO:=.ext λh=>h.CodeRec (.ref c) q
def FnO(f:Addr)(o:Obj):HO:=.ext λh=>h.get? f=some o
theorem CdO.ok{c:Addr}{q:Str}(x:h.CodeRec (.ref c) q):ObjOk P w H h c (CdO c q):=by
 show⟨x,?_,λh1 f r k=>?_⟩
 .obtain⟨d,o,b,t,e,a,_⟩:=x;cases e;show⟨o,a⟩
 .obtain⟨d,o,b,t,e,a,r⟩:=r;cases e;show⟨c,o,b,t,rfl,k o a,r⟩
theorem FnO.ok{f:Addr}{o:Obj}(x:h.get? f=some o):ObjOk P w H h f (FnO f o):=⟨x,⟨_,x⟩,λ_ _ r k=>k _ r⟩
def TbO(H:Hp)(P:Addr)(pos:Pos)(q:Str):Prop:=∃ ps:Array Value,H P=some (.tbl ps)/\TriplesOk ps.toList/\(codeAmong pos ps.toList=none\/∃ a,codeAmong pos ps.toList=some (.ref a)/\H a=some (CdO a q))
def zS(P:Addr)(H H':Hp):Prop:=∀ b o,b≠P->H b=some o->H' b=some o
section
variable{X:Cx}{pins:List (Addr×Obj)}{σ:St}{H:Hp}{s:Shared}{E:Value->Shared->Prop}
structure LamSc(scope:Scope)(p w:Str):Prop where
 kind:scope.kind=.function
 co:scope.isCoroutine=false
 gen:scope.isGenerator=false
 par:scope.names.lookup p=some .local
 fre:scope.names.lookup w=some .free
 noc:∀ x∈scope.names,x.2≠.cell
 one:∀ x,scope.names.lookup x=some .cell\/scope.names.lookup x=some .free->x=w
end
end L2
namespace L2
open PySem PySem.Spec PyProof.Rows
variable{c p:Addr}{ps:Array Value}{x:Str}
theorem law_callT{P:Program}{w:World}{K:yf}{mg Z:Str->Option Value}{CX:CXT}{k:Nat}{S a:Addr}{fd:FuncData}{sp:Sp}{f:Shared}{vs:List Value}{ns:LY}
  (KX:K.In f.heap) (L:f.heap.Ns mainGlobals mg) (hb:f.heap.Ns builtinsNs Z) (U:∀ x:Str,x≠"__name__"->Z x=bootBuiltins x) (J:f.heap.NoLimit) (hg:f.gens=#[])
  (B:f.heap.get? a=some { cls:=.type "list",data:=.seq vs.toArray }) (hi:IntsAre vs ns) (hl:ns.length<=sizeLine) (hr:Room k callerA) (G:f.heap.TableAt c p ps) (X:K.lookup p=none)
  (F:∀ base:Heap,K.In base->base.Ns mainGlobals mg->FnOk P w K mg base CX k S fd [x] sp) (A:∀(s:Shared) (u:Value),BindsTo s fd ⟨[u],[]⟩ [(x,u)])
  (Y:∀ H:Hp,H p=some (.tbl ps)->SqL K H a (ns.map V.int)->sp [.ref a] H (λv _=>v=.bl true) λ_ _ _=>False)
  (T:∀ H e s',CX [] H f (λ_ _ _=>False) e s'->False) :
  codeAny (model P w) callerA (.call (.ref S) ⟨[.ref a],[]⟩) (λr s'=>r=.ok (.ret (.bool true))/\OldK f.heap s'.heap/\s'.os=f.os/\AllBare s'.gens) f:=by
 have rv:=qbA hi;have O:=hi.length;have l:∀ H:Hp,H p=some (.tbl ps)->(∀ b,b=p\/H b=none\/∃ o xs,H b=some (.frz o (.lst xs)))->SqL K H a (ns.map V.int)->HOk P w H f.heap->(∀ b,H b≠none->b=a\/b=p)->(H a≠none->K.lookup a=none) ->
   codeAny (model P w) callerA (.call (.ref S) ⟨[.ref a],[]⟩) (λr s'=>r=.ok (.ret (.bool true))/\OldK f.heap s'.heap/\s'.os=f.os/\AllBare s'.gens) f:=by
  intro H hp hO hS M hA hK;have base_of:∀{b:Addr} {o:Obj},f.heap.get? b=some o->H b=none->(qdy f.heap H).get? b=some o:=λe n=>qdz e n
  have aa:∀{b:Addr} {o:Obj} {D:Array DictEntry} {ep:Nat},f.heap.get? b=some o->o.data=.dict D ep->H b=none:=λ{b o D ep} e d=>by
   cases q:H b with
   | none=>rfl
   | some u =>
    rcases hA b (by rw[q];simp) with e' | e'
    .subst e';rw[B] at e;cases e;have d':Data.seq vs.toArray _=Data.dict D ep:=d;cases d'
    .subst e';rw[G.2] at e;cases e;cases d
  have i:∀{b:Addr} {m:Str->Option Value},f.heap.Ns b m->(qdy f.heap H).Ns b m:=λ{b m} ⟨o,D,ep,e,d,r⟩=>⟨o,D,ep,base_of e (aa e d),d,r⟩
  have E:K.In (qdy f.heap H):=λb o e=>base_of (KX b o e) (by
   cases q:H b with
   | none=>rfl
   | some u =>
    rcases hA b (by rw[q];simp) with e' | e'
    .subst e';rw[hK (by rw[q];simp)] at e;cases e
    .subst e';rw[X] at e;cases e)
  have hM:Mod K mg (qdy f.heap H):=⟨E,i L,⟨Z,i hb,U⟩,let ⟨mc,h1,h2⟩:=J;⟨mc,i h1,h2⟩⟩;have e0:Env0 P w K mg (qdy f.heap H) callerA [] f H:=⟨rfl,hM,λb o e=>qej e,XY (qct _ _),trivial,λb hb=>absurd (show b∈([]:LX) from hb) (by simp),M,.of_eq hg⟩;show YN ((F _ E (i L)).run callerA [] f H ⟨[.ref a],[]⟩ [.ref a] [.ref a] _ _ hr e0 (A f (.ref a)) (.cons rfl .nil) (Y H hp hS)) λr s' h=>?_
  cases r with
  | error e=>show(T H e s' h).elim
  | ok fl =>
   cases fl with
   | next=>show False.elim h
   | brk=>show False.elim h
   | cont=>show False.elim h
   | ret u =>
    obtain⟨v,H',os,C,un,t,r',q⟩:=h;have q':v=.bl true:=q;subst q';obtain rfl:u=Value.bool true:=r';show⟨rfl,⟨λb o e=>?_,λb o e=>un.there b o e (by simp)⟩,os,C⟩;rcases hO b with z | q | ⟨ob,xs,z⟩
    .subst z;obtain⟨y,z2⟩:=un.tbls b ps hp;have R:s'.heap.get? b=some { cls:=.none,data:=.fields (ps++y) }:=t b _ z2;rw[G.2] at e;cases e;show .inr (.inl ⟨G.isCodeTable,rfl,ps,y,rfl,R⟩)
    .show .inl (un.keep b o e q (by intro z;show absurd (show b∈([]:LX) from z) (by simp)) (by simp))
    .have z2:=un.frzs b ob _ z;obtain⟨e1,_⟩:=M b _ z;obtain⟨R,_⟩:=t b _ z2;rw[e] at e1;cases e1;show .inl R
 have I:a≠p:=λz=>by rw[z,G.2] at B;cases B
 have N:∀{H:Hp},ObjOk P w H f.heap p (.tbl ps):=G.2
 cases W:K.lookup a with
 | some o =>
  have e:=KX a o W;rw[B] at e;cases e;show l (λb=>if b=p then some (.tbl ps) else none) (yB rfl) (λb=>?_) (.inr ⟨_,vs.toArray,_,W,rfl,rfl,rfl,by rw[yr,O];show hl,by simpa using rv⟩) (λb u z=>?_) (λb z=>?_) λz=>absurd (yw I) z
  .by_cases hb:b=p
   .show .inl hb
   .show .inr (.inl (yw hb))
  .by_cases hb:b=p
   .have j:=(yB hb).symm.trans z;cases j;subst hb;show N
   .have j:=(yw hb).symm.trans z;cases j
  .by_cases hb:b=p
   .show .inr hb
   .show absurd (yw hb) z
 | none =>
  show l (λb=>if b=p then some (.tbl ps) else if b=a then some (.frz { cls:=.type "list",data:=.seq vs.toArray } (.lst (ns.map V.int))) else none) (yB rfl) (λb=>?_) (.inl (.inr ⟨{ cls:=.type "list",data:=.seq vs.toArray },(yw I).trans (yB rfl)⟩)) (λb u z=>?_) (λb z=>?_) λ_=>W
  .by_cases hb:b=p
   .show .inl hb
   .by_cases g:b=a
    .show .inr (.inr ⟨_,_,(yw hb).trans (yB g)⟩)
    .show .inr (.inl ((yw hb).trans (yw g)))
  .by_cases hb:b=p
   .have j:=(yB hb).symm.trans z;cases j;subst hb;show N
   .by_cases g:b=a
    .have j:=((yw hb).trans (yB g)).symm.trans z;cases j;subst g;show⟨B,by rw[ya];show hl,vs,_,rv,B⟩
    .have j:=((yw hb).trans (yw g)).symm.trans z;cases j
  .by_cases hb:b=p
   .show .inr hb
   .by_cases g:b=a
    .show .inl g
    .show absurd ((yw hb).trans (yw g)) z
theorem walk_ofT{l:PySem.W.OpenLaw}{n k:Nat}{q:Program}{loose:LN}{XP:(Str->Option Value)->Heap->Prop}{YP:World->Heap->Prop}{d:DefRec}{K:Params->yf}{CX:World->CXT}{sp:World->Sp}
  (X:l.most=some n) (C:n<=sizeLine) (A:d.params.defaults=[]) (Z:Room k callerA)
  (R:∀(w:World) (h:Heap),YP w h->(K w.params).In h/\h.TableAt c p ps) (D:∀ w:World,(K w.params).lookup p=none)
  (F:∀(w:World) (mg:Str->Option Value) (t:Addr) (h:Heap),(K w.params).In h->h.Ns mainGlobals mg->mg d.name=some (.ref t) ->
   ∃ y:FuncData,(∀(s:Shared) (u:Value),BindsTo s y ⟨[u],[]⟩ [(x,u)]) /\
    ∀ base:Heap,(K w.params).In base->base.Ns mainGlobals mg->FnOk l.prog w (K w.params) mg base (CX w) k t y [x] (sp w))
  (E:∀(w:World) (H:Hp) (a:Addr) (ns:LY),ns.length<=n->H p=some (.tbl ps)->SqL (K w.params) H a (ns.map V.int)->sp w [.ref a] H (λv _=>v=.bl true) λ_ _ _=>False)
  (z:∀(w:World) (H:Hp) (s:Shared) (e:Value) (s':Shared),CX w [] H s (λ_ _ _=>False) e s'->False) :
  PySem.W.WalkO q loose XP YP l.row.toRowW d [] (λf vs=>PySem.call f vs):=by
 show Att.attach_call X A λw J r mg mb t o pm cd L a vs ns G Y ho hd S B m j i U=>?_;obtain⟨I,P⟩:=R w _ Y;obtain⟨y,hb,M⟩:=F w mg t _ I G.T.g B;show law_callT I G.T.g G.T.b G.T.builtins G.T.nolimit U m j (yh i C) Z P (D w) M hb (λH N O=>E w H a ns i N O) λH e s'=>z w H r e s'
end L2
namespace L2
open PySem PySem.Spec PyProof.Rows PySem.W
variable{h:Heap}{tb:Addr}
inductive SrK(K:yf)(P:Addr)(lp:Pos)(qual:Str)(iw:Nat)(t:TE)(σ:St)(x:V)(H:Hp)(Q:VK):Prop
 | mk (l:Addr) (xs:List V) (zk:LY) (wv:V) (_:x=.ref l) (_:SqL K H l xs) (_:zk.length=xs.length) (_:xs.length<64) (_:TbO H P lp qual) (_:σ[iw]?=some (some wv))
  (_:∀(i:Nat) (v:V) (k:Int) (H':Hp),xs[i]?=some v->zk[i]?=some k->zS P H H'->t [some v,some wv] H' λr H2=>r=.int k/\L2.Same H' H2)
  (_:∀(D:Addr) (ys:List V) (H':Hp),zS P H H'->TbO H' P lp qual->H D=none->H' D=some (.lst ys)->KSo zk xs ys->Q (.ref D) H')
section
variable{X:Cx}{K:yf}{e body:Expr}{te t:TE}{p lp kp pos:Pos}{params:Arguments}{scope:Scope}{c P cw:Addr}{pn wn:Str}{iw:Nat}{k:Nat}
end
theorem qaW{k:Nat}{A:Around}(r:Room k A):A.units+100<cLine:=by have:=r.un;lk
section
variable{P:Program}{w:World}{K:yf}{mg:Str->Option Value}{base:Heap}
end
def FGC(K:yf)(a:Str)(st:Stmt)(c:Addr):Prop:=∃ f b,PySem.W.nsIn K mainGlobals a=some (some (.ref f))/\Fun K a a st f b/\b.code=.ref c
def qhh(K:yf)(c tb:Addr):Bool:=match K.lookup c with
 | some ⟨.type t,_,.fields vs,_⟩=>t=="code"&&(match vs.getD 11 .none,vs.getD 18 .none,vs.getD 7 .none,vs.getD 9 .none,vs.getD 10 .none with
  | .ref q,.str _ _,.int _ _,.bool _,.int _ _=>q==tb&&decide (11<vs.size)&&c != tb
  | _,_,_,_,_=>false)
 | _=>false
theorem chd_of{K:yf}{c:Addr}(X:K.In h)(e:qhh K c tb=true):CodeHd h c tb:=by
 unfold qhh at e;split at e
 .rename_i t d vs sl ho
  rw[yF] at e;obtain⟨g,a⟩:=e;split at a
  .rename_i q f tf fl tg b x tx h11 h18 h7 h9 h10
   rw[yF,yF] at a;obtain⟨⟨j,l⟩,m⟩:=a;have eq:q=tb:=yM.mp j;have i:t="code":=yM.mp g;subst eq i;have hl:=yj l;show⟨_,vs,f,tf,fl,tg,b,x,tx,X _ _ ho,rfl,rfl,?_,h11,h18,h7,h9,h10,by simpa using m⟩;rw[<- h11,Array.getD_eq_getD_getElem?,xo hl];rfl
  .cases a
 .cases e
def bmB(K:yf)(a tb:Addr):Bool:=match K.lookup a with
 | some ⟨.type t,some d,.plain,_⟩=>t=="module"&&d==builtinsNs&&a != builtinsNs&&a != mainGlobals&&a != tb
 | _=>false
theorem bm_of{K:yf}{a:Addr}{mg:Str->Option Value}(X:K.In h)(m:mg "__builtins__"=some (.ref a))(e:bmB K a tb=true):h.BuiltinsAt mg tb:=by
 unfold bmB at e;split at e
 .rename_i t d sl ho
  simp only[yF,yM,bne_iff_ne] at e;obtain⟨⟨⟨⟨b,c⟩,f⟩,g⟩,i⟩:=e;subst b c;show⟨a,_,m,f,g,i,X _ _ ho,rfl,rfl,rfl⟩
 .cases e
end L2
namespace L2
open PySem PySem.Spec PyProof.Rows PySem.W
variable{H H':Hp}{P c f:Addr}{base:Heap}{body:Expr}{clos:List (Str×Addr)}{cs:LX}{i:Nat}{mg:Str->Option Value}{ns:LN}{params:Arguments}{pos:Pos}{q x:Str}{scope:Scope}{v:V}{vs:List V}{w:World}
theorem among_app{p:Pos}{c:Value}(l:List Value)(h:TriplesOk l):codeAmong pos (l++[rawInt p.line,rawInt p.col,c])=codeAmong pos l\/codeAmong pos (l++[rawInt p.line,rawInt p.col,c])=some c:=by
 fun_induction TriplesOk l with
 | case1 =>
  simp only[List.nil_append,rawInt,codeAmong];split
  .show .inr rfl
  .show .inl rfl
 | case2 a t b u x rest ih =>
  simp only[Xx,codeAmong];split
  .show .inl rfl
  .show ih h
 | case3 l h1 h2=>show h.elim
def TbA(H:Hp)(P:Addr)(q:Str):Prop:=∃ ps:Array Value,H P=some (.tbl ps)/\TriplesOk ps.toList/\∀ pos:Pos,codeAmong pos ps.toList=none\/∃ a,codeAmong pos ps.toList=some (.ref a)/\H a=some (CdO a q)
theorem TbA.same(h:TbA H P q)(s:L2.Same H H'):TbA H' P q:=by
 obtain⟨ps,h1,d,e⟩:=h;show⟨ps,s _ _ h1,d,λp=>(e p).imp id λ⟨c,a,b⟩=>⟨c,a,s _ _ b⟩⟩
section
variable{X:Cx}{pins:List (Addr×Obj)}{σ:St}{H:Hp}{s:Shared}{E:Value->Shared->Prop}
theorem lam_makeA{Q:VK}(I:Inv X pins σ H s)(j:X.env.code=.ref c)(C:CodeHd X.base c P)(hb:X.base.BuiltinsAt X.mg P)(T:TbA H P (X.env.qual++"<lambda>"))(F:closureFor scope X.env=pure clos)(G:defaultsOf params X.env=([],[]))
  (q:∀ f a pm g H',zS P H H'->TbA H' P (X.env.qual++"<lambda>")->H f=none->H' f=some (FnO f (kla_obj "<lambda>" (X.env.qual++"<lambda>") params body scope clos pm a g))->H' a=some (CdO a (X.env.qual++"<lambda>"))->Q (.ref f) H') :
  wpAny (model X.prog X.w) X.A (eval (.Lambda params body scope pos) X.env) (EP X pins σ Q) E s:=by
 obtain⟨ps,h,K,B⟩:=T;have tb:=B pos;show kla_eval G ?_;have hg:=I.mod.glob.keeps I.bk;have x:s.heap.get? P=some (tabObj ps):=I.hok _ _ h
 have hB:s.heap.BuiltinsAt X.mg P:=by
  obtain⟨bm,o,b1,b2,b3,b4,b5,b6⟩:=hb;show⟨bm,o,b1,b2,b3,b4,I.bk _ _ b5,b6⟩
 have lt:∀ b u,H b=some u->b<s.heap.objs.size:=λb u e=>Nat.lt_of_not_le λz=>by rw[I.hok.fresh z] at e;cases e
 rcases tb with tb | ⟨a,tb,hc'⟩
 .have aa:mainGlobals≠P:=λz=>by
   obtain⟨o,es,ep,e,hd,_⟩:=hg;rw[z,x] at e;cases e;cases hd
  show kla_makeFunction (mg:=X.mg) F I.ok.glob hg j (C.keeps I.bk) x K tb aa hB λa g h' tk hx i l J ab=>?_;have n1:a≠P:=λz=>by have:=lt _ _ h;rw[z] at i;show absurd this (Nat.not_lt.mpr i)
  have n2:h'.objs.size≠P:=λz=>by rw[<- z] at h;show absurd (kK (lt _ _ h) (YG i l)) (yU _)
  have n3:a≠h'.objs.size:=yG l;have old:∀ b,b<s.heap.objs.size->b≠a/\b≠h'.objs.size:=λb hb=>⟨yG (yi hb i),yG (kK (yi hb i) l)⟩;have eo:∀ b,b<s.heap.objs.size->b≠P->∀ o1 o2 o3,upd (upd (upd H P o1) a o2) h'.objs.size o3 b=H b:=λb hb Z o1 o2 o3=>by rw[qh (old b hb).2,qh (old b hb).1,qh Z]
  have N:∀ b o,b≠P->s.heap.get? b=some o->(h'.push (kla_obj "<lambda>" (X.env.qual++"<lambda>") params body scope clos ((X.mg "__name__").getD .none) a g)).get? b=some o:=λb o n e=>yq _ (hx b o n e);have W:upd (upd (upd H P (.tbl (ps++#[rawInt pos.line,rawInt pos.col,.ref a]))) a (CdO a (X.env.qual++"<lambda>"))) h'.objs.size (FnO h'.objs.size (kla_obj "<lambda>" (X.env.qual++"<lambda>") params body scope clos ((X.mg "__name__").getD .none) a g)) P=some (.tbl (ps++#[rawInt pos.line,rawInt pos.col,.ref a])):=by rw[qh (YW n2),qh (YW n1),qc]
  have Y:upd (upd (upd H P (.tbl (ps++#[rawInt pos.line,rawInt pos.col,.ref a]))) a (CdO a (X.env.qual++"<lambda>"))) h'.objs.size (FnO h'.objs.size (kla_obj "<lambda>" (X.env.qual++"<lambda>") params body scope clos ((X.mg "__name__").getD .none) a g)) a=some (CdO a (X.env.qual++"<lambda>")):=by rw[qh n3,qc]
  have m:zS P H (upd (upd (upd H P (.tbl (ps++#[rawInt pos.line,rawInt pos.col,.ref a]))) a (CdO a (X.env.qual++"<lambda>"))) h'.objs.size (FnO h'.objs.size (kla_obj "<lambda>" (X.env.qual++"<lambda>") params body scope clos ((X.mg "__name__").getD .none) a g))):=λb o n e=>by rw[eo b (lt b o e) n];show e
  have L:=yq (kla_obj "<lambda>" (X.env.qual++"<lambda>") params body scope clos ((X.mg "__name__").getD .none) a g) ab;show⟨.ref h'.objs.size,_,I.un (t':=tk) ⟨λb o e n hb _=>N b o (λz=>by rw[z,h] at n;cases n) e,λb o e n hb _=>⟨o.slots,N b o (λz=>by rw[z,h] at n;cases n) e⟩,λb o e n _=>(eo b (yy e) (λz=>by rw[z,h] at n;cases n) _ _ _).trans n,λb o e _=>?_,λb xs e=>m b _ (λz=>by rw[z,h] at e;cases e) e,λb o u e=>m b _ (λz=>by rw[z,h] at e;cases e) e,λb qs e=>?_⟩ (λb u e=>?_),rfl,q _ a _ g _ m ⟨_,W,?_,λO=>?_⟩ (I.hok.fresh (Ym (YG i l))) qc Y⟩
  .by_cases z:b=P
   .subst z;show⟨_,L⟩
   .show⟨o,N b o z e⟩
  .by_cases z:b=P
   .subst z;rw[h] at e;cases e;show⟨_,W⟩
   .show⟨#[],by rw[m b _ z e];simp⟩
  .by_cases z:b=h'.objs.size
   .subst z;rw[qc] at e;cases e;show FnO.ok (yI _ rfl)
   .by_cases z2:b=a
    .subst z2;rw[Y] at e;cases e;show CdO.ok ?_;obtain⟨M,o,ws,t,e2,ho,r⟩:=J;cases e2;show⟨b,o,ws,t,rfl,yq _ ho,r⟩
    .by_cases z3:b=P
     .subst z3;rw[W] at e;cases e;show L
     .rw [qh z,qh z2,qh z3] at e;show(I.hok b u e).stay (λd v hd q=>N d v (λz=>?_) q) (λd hd=>m d _ (λz=>by rw[z,h] at hd;cases hd) hd) λd xs hd=>m d _ (λz=>by rw[z,h] at hd;cases hd) hd;rcases hd with hd | hd
      .show z3 (hd.symm.trans z)
      .rw [z,h] at hd;cases hd
  .have U:(ps++#[rawInt pos.line,rawInt pos.col,Value.ref a]).toList=ps.toList++[rawInt pos.line,rawInt pos.col,.ref a]:=by simp
   rw[U];show TriplesOk_snoc _ _ _ _ K
  .have U:(ps++#[rawInt pos.line,rawInt pos.col,Value.ref a]).toList=ps.toList++[rawInt pos.line,rawInt pos.col,.ref a]:=by simp
   rw[U];rcases among_app (pos:=O) (p:=pos) (c:=.ref a) _ K with z | z
   .rw [z];show(B O).imp id λ⟨M,S,D⟩=>⟨M,S,m _ _ (λy=>by rw[y,h] at D;cases D) D⟩
   .show .inr ⟨a,z,Y⟩
 .show kla_makeFunctionHit (mg:=X.mg) F I.ok.glob hg j (C.keeps I.bk) x K tb hB λg h' tk hk kq=>?_;have hn:H h'.objs.size=none:=I.hok.fresh kq;have R:=Same.put (o:=FnO h'.objs.size (kla_obj "<lambda>" (X.env.qual++"<lambda>") params body scope clos ((X.mg "__name__").getD .none) a g)) (Same.refl H) hn;show⟨.ref h'.objs.size,_,I.laid (t':=tk) (λb o e=>yq _ (hk b o e)) kq (FnO.ok (yI _ rfl)),rfl,q _ a _ g _ (λb o _ e=>R b o e) ⟨ps,R _ _ h,K,λO=>(B O).imp id λ⟨M,S,D⟩=>⟨M,S,R _ _ D⟩⟩ hn qc (R _ _ hc')⟩
def qhF(P:Addr)(q:Str)(params:Arguments)(body:Expr)(scope:Scope)(clos:List (Str×Addr)):TE:=λ_ H Q=>TbA H P q/\∀ f a c b H',zS P H H'->TbA H' P q->H f=none->H' f=some (FnO f (kla_obj "<lambda>" q params body scope clos c a b))->H' a=some (CdO a q)->Q (.ref f) H'
theorem qaX(a:X.env.code=.ref c)(C:CodeHd X.base c P)(hb:X.base.BuiltinsAt X.mg P)(d:closureFor scope X.env=pure clos)(b:defaultsOf params X.env=([],[]):=by rfl) :
  PE X (.Lambda params body scope pos) (qhF P (X.env.qual++"<lambda>") params body scope clos):=λpins s σ H Q I h=>lam_makeA I a C hb h.1 d b h.2
end
def CelO(c:Addr)(v:V):HO:=.ext λh=>∃ u,RelV v u/\h.IsCell c (some u)
theorem CelO.ok{P:Program}{h:Heap}(x:∃ u,RelV v u/\h.IsCell c (some u)):ObjOk P w H h c (CelO c v):=by
 show⟨x,?_,λh1 b r k=>?_⟩
 .obtain⟨u,_,o,a,_⟩:=x;show⟨o,a⟩
 .obtain⟨u,r,o,a,d⟩:=r;show⟨u,r,o,k o a,d⟩
def qaF(H:Hp)(cs:LX):Hp:=λb=>if b∈cs then none else H b
def qf4(H H':Hp)(cs:LX):Hp:=λb=>if b∈cs then H b else H' b
def Cells(H:Hp)(cs:LX):Prop:=∀ c∈cs,∃ v,H c=some (CelO c v)
section
variable{P:Program}{w:World}{H H':Hp}{h h':Heap}{cs:LX}{b:Addr}{o:HO}
theorem qcl(h:b∈cs):qaF H cs b=none:=yB h
theorem jA(h:b∉cs):qaF H cs b=H b:=yw h
theorem qeK(h:b∈cs):qf4 H H' cs b=H b:=yB h
theorem jB(h:b∉cs):qf4 H H' cs b=H' b:=yw h
theorem Cells.out(C:Cells H cs)(e:H b=some o)(n:∀ v,o≠CelO b v):b∉cs:=λz=>by
 obtain⟨v,q⟩:=C b z;rw[e] at q;show n v (yl q)
theorem Cells.none(C:Cells H cs)(e:H b=none):b∉cs:=λz=>by
 obtain⟨v,q⟩:=C b z;rw[e] at q;cases q
theorem hid_of(e:qaF H cs b=some o):b∉cs/\H b=some o:=by
 by_cases z:b∈cs
 .rw [qcl z] at e;cases e
 .rw [jA z] at e;show⟨z,e⟩
theorem hok_hid(ok:HOk P w H h)(C:Cells H cs):HOk P w (qaF H cs) h:=λb u e=>by
 obtain⟨z,e⟩:=hid_of e;show(ok b u e).stay (λ_ _ _ q=>q) (λd q=>by rw[jA (C.out q λv y=>by cases y)];show q) λd xs q=>by rw[jA (C.out q λv y=>by cases y)];show q
theorem hok_put(ok:HOk P w H' h')(C:Cells H cs)(n:∀ c∈cs,H' c=none)(k:∀ c∈cs,∀ v,H c=some (CelO c v)->∃ u,RelV v u/\h'.IsCell c (some u)):HOk P w (qf4 H H' cs) h':=λb u e=>by
 by_cases z:b∈cs
 .rw [qeK z] at e;obtain⟨v,q⟩:=C b z;rw[e] at q;cases q;show CelO.ok (k b z v e)
 .rw [jB z] at e;have a:∀ d o,H' d=some o->d∉cs:=λd o q y=>by rw[n d y] at q;cases q
  show(ok b u e).stay (λ_ _ _ q=>q) (λd q=>by rw[jB (a _ _ q)];show q) λd xs q=>by rw[jB (a _ _ q)];show q
theorem un_put{fs:LX}(u:Un fs [] (qaF H cs) H' h h')(C:Cells H cs)(n:∀ c∈cs,H' c=none):Un fs [] H (qf4 H H' cs) h h':=by
 have a:∀ b,H b=none->qaF H cs b=none:=λb e=>by rw[jA (C.none e)];show e
 have g:∀ d o,H' d=some o->d∉cs:=λd o q y=>by rw[n d y] at q;cases q
 show⟨λb o e z=>u.keep b o e (a b z),λb o e z=>u.slot b o e (a b z),λb o e z f=>?_,λb o e f=>u.there b o e f,λb xs e=>?_,λb o x e=>?_,λb ps e=>?_⟩
 .rw [jB (C.none z)];show u.free b o e (a b z) f
 .have q:=u.tups b xs (by rw[jA (C.out e λv y=>by cases y)];show e);rw[jB (g _ _ q)];show q
 .have q:=u.frzs b o x (by rw[jA (C.out e λv y=>by cases y)];show e);rw[jB (g _ _ q)];show q
 .obtain⟨m,q⟩:=u.tbls b ps (by rw[jA (C.out e λv y=>by cases y)];show e);show⟨m,by rw[jB (g _ _ q)];show q⟩
end
def qbJ(H:Hp)(cs:LX)(E:XK):XK:=λC a H'=>(∀ c∈cs,H' c=none)->E C a (qf4 H H' cs)
section
variable{P:Program}{w:World}{K:yf}{mg:Str->Option Value}{base:Heap}{A:Around}{outer:List Env}{s:Shared}{H:Hp}{cs:LX}{E:XK}
theorem qeL(l:Env0 P w K mg base A outer s H)(C:Cells H cs){m:Value}{s':Shared}(x:CX1 P w outer (qaF H cs) s (qbJ H cs E) m s'):CX1 P w outer H s E m s':=by
 obtain⟨a,y,B,T,H',rfl,G,f,un,j,i,t,p,h,q⟩:=x
 have b:∀ c∈cs,∀ v,H c=some (CelO c v)->(∃ o,s.heap.get? c=some o)/\H' c=none/\∃ u,RelV v u/\s'.heap.IsCell c (some u):=λc hc v e=>by
  obtain⟨⟨u,r,o,g,d⟩,_⟩:=(show ObjOk P w H s.heap c (CelO c v) from l.hok c _ e);have F:c∉frs outer:=λz=>by rw[l.frf c z] at e;cases e
  show⟨⟨o,g⟩,un.free c o g (qcl hc) (by simp),u,r,o,un.keep c o g (qcl hc) F (by simp),d⟩
 have n:∀ c∈cs,H' c=none:=λc hc=>let ⟨v,e⟩:=C c hc;(b c hc v e).2.1
 have D:T∉cs:=λz=>by
  obtain⟨v,e⟩:=C T z;obtain⟨⟨o,g⟩,_⟩:=b T z v e;show absurd (yi (yy g) p) (yU _)
 show⟨a,y,B,T,qf4 H H' cs,rfl,G,f,un_put un C n,hok_put j C n λc hc v e=>(b c hc v e).2.2,?_,t,p,by rw[jB D];show h,q n⟩;rw[jB (λz=>by rw[n a z] at i;cases i)];show i
theorem env0_hid(a:Env0 P w K mg base A outer s H)(C:Cells H cs):Env0 P w K mg base A outer s (qaF H cs):=
 ⟨a.frames,a.mod,λb o e=>⟨(a.bs b o e).1,by rw[jA (C.none (a.bs b o e).2)];show(a.bs b o e).2⟩,a.bsz,a.funs,λb hb=>by rw[jA (C.none (a.frf b hb))];show a.frf b hb,hok_hid a.hok C,a.bare⟩
end
def qbe(P:Program)(w:World)(K:yf)(mg:Str->Option Value)(base:Heap)(A:Around)(outer:List Env)(N:LN)(a:Str)(scope:Scope)(f c:Addr)(clos:List (Str×Addr))(s:Shared)(H:Hp)(E:XK):Cx where
 prog:=P
 w:=w
 K:=K
 mg:=mg
 base:=base
 A:=A.deeper (envX a scope s.heap.objs.size f (.ref c) clos)
 N:=N
 s₀:=s
 H₀:=H
 env:=envX a scope s.heap.objs.size f (.ref c) clos
 outer:=outer
 stack:=envX a scope s.heap.objs.size f (.ref c) clos::outer
 ex:=[]
 calm:=true
 fn:=λ_=>false
 pn:=[]
 xe:=λe s'=>wpAny (model P w) (A.deeper (envX a scope s.heap.objs.size f (.ref c) clos)) (leaving (envX a scope s.heap.objs.size f (.ref c) clos) e) (λ_ b=>CX1 P w outer H s E e b) (λd b=>CX1 P w outer H s E d b) s'
section
variable{P:Program}{w:World}{K:yf}{mg:Str->Option Value}{base:Heap}{N:LN}{qual:Str}{scope:Scope}{f c':Addr}{clos:List (Str×Addr)}{A:Around}{outer:List Env}{s0:Shared}{H0:Hp}{E:XK}
theorem zG:XOk (qbe P w K mg base A outer N qual scope f c' clos s0 H0 E) λ_=>E where
 calm:=rfl
 pass:=by
  intro g R H s W s' I r;obtain⟨a,C,d,T,H',rfl,G,p,un,F,i,t,S,D,q⟩:=r;have J:=I.call' (s':=s') (H':=H') (ch:=[]) G un F p (λb z=>absurd z (by simp));show wpAny _ _ (leaving _ _) _ _ _;unfold leaving;show yp (qce (base:=base) J.ok.frames J.stack rfl t λh' h j t' k=>?_);show qaz (s:={ s' with heap:=h' }) t' λB l u O=>?_;have L:s0.heap.objs.size<=s.heap.objs.size:=I.sz;have m:=J.sz
  have v:Keep (frs (envX qual scope s0.heap.objs.size f (.ref c') clos::outer)) [a,T,h] s'.heap B:=by
   show⟨λb o e z n=>?_,λb o e z n=>?_⟩
   .simp only[yt,yv,yN,kH] at z;show u b o z.2.2 (k.keep b o e (by simp[z.1,z.2.1]) n)
   .simp only[yt,yv,yN,kH] at z;obtain⟨M,y⟩:=k.slot b o e (by simp[z.1,z.2.1]) n;show⟨M,u b _ z.2.2 y⟩
  have c:H' h=none:=J.hok.fresh j;show⟨a,C,d,h,H',rfl,J.os,p,qdP J rfl i v (λb hb=>?_) l,qaT J i v (λb hb=>?_) l,i,l,yh m j,c,q⟩
  .simp only[yt,yv,yN] at hb;rcases hb with rfl | rfl | rfl
   .show .inl rfl
   .show .inr (yh L S)
   .show .inr (yh m j)
  .simp only[yt,yv,yN] at hb;rcases hb with rfl | rfl | rfl
   .show .inl rfl
   .show .inr D
   .show .inr c
 rais:=by
  intro g R H s a C d I e q;obtain⟨⟨U,r⟩,_⟩:=(show ObjOk _ _ H s.heap a (XN a C d) from I.hok a _ e);have J:Inv _ g R (upd H a (XO a C d)) s:=I.write (x:=a) (e:=a) (o:=XO a C d) (h':=s.heap) (t':=s.toks) (by rw[e];show Yp) (.inl rfl) (λ_ _ _ q=>q) ⟨_,r⟩ (XO.ok r);show wpAny _ _ (leaving _ _) _ _ _;unfold leaving;show yp (qbH (base:=base) J.ok.frames J.stack rfl r rfl rfl λh' h j t' k=>?_);show qaz (s:={ s with heap:=h' }) t' λB l u O=>?_;have m:=J.sz;have i:upd H a (XO a C d) a=some (XO a C d):=qc
  have v:Keep (frs (envX qual scope s0.heap.objs.size f (.ref c') clos::outer)) [a,h] s.heap B:=by
   show⟨λb o e z n=>?_,λb o e z n=>?_⟩
   .simp only[yt,yv,yN,kH] at z;show u b o z.2 (k.keep b o e (by simp[z.1]) n)
   .simp only[yt,yv,yN,kH] at z;obtain⟨M,y⟩:=k.slot b o e (by simp[z.1]) n;show⟨M,u b _ z.2 y⟩
  have c:upd H a (XO a C d) h=none:=J.hok.fresh j;show⟨a,C,d,h,_,rfl,J.os,J.bare,qdP J rfl i v (λb hb=>?_) l,qaT J i v (λb hb=>?_) l,i,l,yh m j,c,q⟩
  .simp only[yt,yv,yN] at hb;rcases hb with rfl | rfl
   .show .inl rfl
   .show .inr (yh m j)
  .simp only[yt,yv,yN] at hb;rcases hb with rfl | rfl
   .show .inl rfl
   .show .inr c
end
structure Clo(H:Hp)(f:Addr)(q:Str)(params:Arguments)(body:Expr)(scope:Scope)(ns:LN)(vs:List V)(cs:LX):Prop where
 fn:∃ c' pm ctv,H f=some (FnO f (kla_obj "<lambda>" q params body scope (ns.zip cs) pm c' ctv))/\H c'=some (CdO c' q)
 len:cs.length=ns.length
 lenv:vs.length=ns.length
 nd:cs.Nodup
 cel:∀(i:Nat) c v,cs[i]?=some c->vs[i]?=some v->H c=some (CelO c v)
theorem Clo.cells(C:Clo H f q params body scope ns vs cs):Cells H cs:=λc hc=>by
 obtain⟨i,a,e⟩:=XE.mp hc;have hv:i<vs.length:=by rw[C.lenv,<- C.len];show a
 show⟨vs[i],C.cel i c _ (by rw[yb a,e]) (yb hv)⟩
theorem Clo.same(C:Clo H f q params body scope ns vs cs)(s:L2.Same H H'):Clo H' f q params body scope ns vs cs:=
 ⟨let ⟨c',pm,ctv,e1,e2⟩:=C.fn;⟨c',pm,ctv,s _ _ e1,s _ _ e2⟩,C.len,C.lenv,C.nd,λi c v a b=>s _ _ (C.cel i c v a b)⟩
structure LamN(scope:Scope)(ns:LN):Prop where
 kind:scope.kind=.function
 co:scope.isCoroutine=false
 gen:scope.isGenerator=false
 fre:∀ x∈ns,scope.names.lookup x=some .free
 noc:∀ x∈scope.names,x.2≠.cell
 one:∀ x,scope.names.lookup x=some .cell\/scope.names.lookup x=some .free->x∈ns
 nd:ns.Nodup
theorem qfi(h1:scope.kind=.function)(b:scope.isCoroutine=false)(c:scope.isGenerator=false)(d:∀ x∈ns,scope.names.lookup x=some .free)(a:∀ x∈scope.names,x.2≠.cell)(e:∀ x∈scope.names,x.2=.free->x.1∈ns)(f:ns.Nodup):LamN scope ns:=
 ⟨h1,b,c,d,a,λx h=>h.elim (λh=>absurd rfl (a _ (Yx h))) λh=>e _ (Yx h) rfl,f⟩
theorem qaY(e:(ns.zip cs).lookup x=some c):∃ i:Nat,ns[i]?=some x/\cs[i]?=some c:=by
 obtain⟨i,a,q⟩:=XE.mp (Yx e);have h1:i<ns.length/\i<cs.length:=by rw[List.length_zip] at a;lk
 rw[List.getElem_zip] at q
 injection q with q1 q2
 show⟨i,by rw[yb h1.1,q1],by rw[yb h1.2,q2]⟩
theorem qdS(g:ns.Nodup)(hl:cs.length=ns.length)(e:ns[i]?=some x):∃ c,(ns.zip cs).lookup x=some c/\cs[i]?=some c:=by
 have d:x∈(ns.zip cs).map (·.1):=by rw[List.map_fst_zip (XY hl.symm)];show ye e
 obtain⟨⟨y,c⟩,f,a⟩:=yK.mp d
 cases q:(ns.zip cs).lookup x with
 | none=>show absurd a (λz=>by rw[List.lookup_eq_none_iff] at q;have:=q _ f;subst z;simp at this)
 | some c2 =>
  obtain⟨j,h1,b⟩:=qaY q;have:j=i:=qaG g h1 e;subst this;show⟨c2,rfl,b⟩
def qc8(P:Program)(w:World)(K:yf)(mg:Str->Option Value)(base:Heap)(k:Nat)(H:Hp)(f:Addr)(wish:XK->Prop):Prop:=
 (∃ o b,H f=some (FnO f o)/\o.data=.func b)/\∀(A:Around) (a:List Env) (s:Shared) (E:XK),Room k A->Env0 P w K mg base A a s H->wish E->codeAny (model P w) A (.call (.ref f) ⟨[],[]⟩) (CR (CX1 P w) a P w H s (λ_ _=>False) E) s
section
variable{P:Program}{w:World}{K:yf}{mg:Str->Option Value}{base:Heap}{H:Hp}{f:Addr}{q:Str}{params:Arguments}{body:Expr}{scope:Scope}{ns:LN}{vs:List V}{cs:LX}{k:Nat}{wish:XK->Prop}
theorem jT(C:Clo H f q params body scope ns vs cs)(S:LamN scope ns)(D:∀(pm:Value) (n:Addr) (I:Value),bindArgs (kla_fn "<lambda>" q params body scope (ns.zip cs) pm (.ref n) I) ⟨[],[]⟩=pure [])
  (hb:∀(A:Around) (a:List Env) (s:Shared) (n:Addr) (E:XK),Room k A->wish E->∃ t,PE (qbe P w K mg base A a ns q scope f n (ns.zip cs) s (qaF H cs) (qbJ H cs E)) body t/\t (vs.map some) (qaF H cs) λ_ _=>False):qc8 P w K mg base (k+1) H f wish:=by
 obtain⟨n,pm,I,ef,ec⟩:=C.fn;show⟨⟨_,_,ef,rfl⟩,λA a s E W g hw=>?_⟩;have O:=C.cells;have M:=env0_hid g O;have B:=g.hok;show kla_callFunE (body:=body) W.depth (B _ _ ef).1 rfl S.co S.gen rfl (B _ _ ec).1 ?_;rw[D];show yu (wpAny_newFunctionEnv S.noc (λy X=>absurd X (by simp)) (λl U L=>⟨(g.mod.nolimit.keeps λb o e=>(g.bs b o e).1).fresh _ L,?_⟩) S.kind);show codeAny _ _ (.expr body (envX q scope s.heap.objs.size f (.ref n) (ns.zip cs))) _ _;have T:∀ b o,s.heap.get? b=some o->l.get? b=some o:=λb o e=>L.extBut b o (yG (yy e)) (yq _ e)
 have x:∀(i:Nat) c v,cs[i]?=some c->vs[i]?=some v->∃ u,RelV v u/\l.IsCell c (some u):=λi c v h1 m=>by
  obtain⟨⟨u,r,o,ho,d⟩,_⟩:=(show ObjOk P w H s.heap c (CelO c v) from g.hok c _ (C.cel i c v h1 m));show⟨u,r,o,T _ _ ho,d⟩
 obtain⟨t,ht,hq⟩:=hb A a s n E (W.mono (xN _)) hw;have F:∀ b:Addr,b∉(qbe P w K mg base A a ns q scope f n (ns.zip cs) s (qaF H cs) (qbJ H cs E)).ex:=λb z=>absurd (show b∈([]:LX) from z) (by simp)
 have J:Inv (qbe P w K mg base A a ns q scope f n (ns.zip cs) s (qaF H cs) (qbJ H cs E)) [] (vs.map some) (qaF H cs) { s with heap:=l,toks:=s.toks+([]:List (Str×Value)).length }:=by
  show⟨⟨g.mod,S.kind,rfl,rfl,yg _,λy z c h1 m=>?_,λy X=>?_,(λy c h=>by cases h),λ_=>W.hd,Around.frames_deeper g.frames,.inr ⟨rfl,rfl⟩,λb z=>absurd z (F b),M.bs,g.bsz,λb _ _=>F b,λb z=>absurd z (F b),g.funs,M.frf⟩,
   rfl,g.bare,Un.kept T,⟨_,U,λi y v h1 m h3=>?_⟩,λy c h=>?_,M.hok.fresh (yg _),λy c h=>?_,λp hp=>absurd (show p∈([]:List (Addr×Obj)) from hp) (by simp),M.hok.kept T,by rw[ya];show C.lenv⟩
  .obtain⟨i,R,G⟩:=qaY h1;obtain⟨j,Z,b2⟩:=qaY m;obtain⟨N,Y⟩:=yc.mp G;obtain⟨hj,b3⟩:=yc.mp b2;have:i=j:=(List.getElem_inj C.nd).mp (Y.trans b3.symm);subst this;rw[R] at Z;show yl Z
  .obtain⟨i,N,e⟩:=XE.mp (S.one y X);obtain⟨c,hc,_⟩:=qdS S.nd C.len (by rw[yb N,e]);show⟨c,hc⟩
  .obtain⟨c,hc,h4⟩:=qdS S.nd C.len h1;rw[yd] at m
   cases hv:vs[i]? with
   | none=>rw[hv] at m;cases m
   | some v2 =>
    rw[hv] at m;cases m;obtain⟨u,r,z⟩:=x i c v h4 hv;show⟨u,r,.inr ⟨.inr (S.fre y (ye h1)),c,hc,z⟩⟩
  .obtain⟨i,R,G⟩:=qaY h;obtain⟨N,Y⟩:=yc.mp G;have hv:i<vs.length:=by rw[C.lenv,<- C.len];show N
   obtain⟨u,r,z⟩:=x i c _ G (yb hv);show⟨_,z⟩
  .obtain⟨i,R,G⟩:=qaY h;show qcl (ye G)
 show kla_codeExpr (Yd (ht [] _ _ _ _ J hq) (λu' s' ⟨v',H',J',r',z⟩=>z.elim) λe s' hx=>?_);show Yd hx (λ_ s2 y=>qeL g O y) λ_ s2 y=>qeL g O y
end
def tDeed(P:Program)(w:World)(K:yf)(mg:Str->Option Value)(base:Heap)(k i:Nat)(b:St->XK):TE:=λa H _=>∃ f wish,a[i]?=some (some (.ref f))/\qc8 P w K mg base k H f wish/\wish (b a)
section
variable{X:Cx}{EK:St->XK}{k i:Nat}{x:Str}{p pos:Pos}
theorem qeM{P:Program}{K:yf}(C:X.prog=P/\X.w=w/\X.K=K/\X.mg=mg/\X.base=base)(B:X.N[i]?=some x)(hv:Vis X.env.scope x)(F:Room k X.A)(n:XOk X EK)(D:(x==("__debug__":Str))=false:=by decide)(c:(x==("__classdict__":Str))=false:=by decide) :
  PE X (.Call (.Name x p) [] [] pos) (tDeed P w K mg base k i EK):=by
 obtain⟨rfl,rfl,rfl,rfl,rfl⟩:=C;intro a s j H Q I h;obtain⟨f,wish,e,⟨⟨o,G,t,E⟩,g⟩,hw⟩:=h;show Yr (thn (qfo (pos:=p) B hv D c a s j H (λv H'=>v=.ref f/\H'=H) I ⟨_,e,rfl,rfl⟩) λu l ⟨v,m,b,r,y,q⟩=>?_);subst y q;obtain rfl:u=.ref f:=r;show callWith_of (P:=λh=>h.get? f=some o) rfl (λh z=>⟨.frame,.inl rfl,(Looks.ld (part:=none) z).andThen (by simp only[E];show .now)⟩) (evalArgs_nil3 ⟨(b.hok _ _ t).1,?_⟩);show YZ (YN (g X.A X.stack l (EK j) F b.env0 hw) λr s' d=>?_)
 cases r with
 | error e=>show n.pass a j m l e s' b d
 | ok fl =>
  cases fl with
  | ret u=>obtain⟨_,_,_,_,_,_,_,z⟩:=d;show z.elim
  | _=>show False.elim d
end
structure EndL where
 nx:St->Hp->Prop
 rs:V->St->Hp->Prop
abbrev TL:=EndL->St->Hp->Prop
def LP(X:Cx)(b:List (Addr×Obj))(D:EndL)(f:Flow)(s':Shared):Prop:=
 match f with
 | .next=>∃ a H',Inv X b a H' s'/\D.nx a H'
 | .ret u=>∃ v a H',Inv X b a H' s'/\RelV v u/\D.rs v a H'
 | _=>False
def PL(X:Cx)(st:List Stmt)(t:TL):Prop:=
 ∀(a:List (Addr×Obj)) (s:Shared) (b:St) (H:Hp) (D:EndL),Inv X a b H s->t D b H->wpAny (model X.prog X.w) X.A (execs st X.env) (LP X a D) X.xe s
section
variable{X:Cx}{st:Stmt}{rest body:List Stmt}{t:TS}{u tb:TL}{e c:Expr}{te:TE}{tc:TT}{pos:Pos}
def qhG(t:TS)(u:TL):TL:=λD a H=>t { nx:=u D,rt:=λ_ _=>False } a H
theorem qbf(h1:PS X st t)(d:PL X rest u):PL X (st::rest) (qhG t u):=by
 intro a s g H D I h;show xP (thn (h1 a s g H _ I h) λf e q=>?_)
 cases f with
 | next =>
  obtain⟨b,H',c,q⟩:=q;show d a e b H' D c q
 | ret v=>obtain⟨_,_,_,_,_,z⟩:=q;show z.elim
 | brk=>obtain⟨_,_,_,z⟩:=q;show z.elim
 | cont=>obtain⟨_,_,_,z⟩:=q;show z.elim
def lRet(te:TE):TL:=λD a H=>te a H λv b=>D.rs v a b
theorem qaZ(f:PE X e te):PL X [.Return (some e) pos] (lRet te):=by
 intro a s b H D I h;show xP (wpAny_Return_some (thn (f a s b H _ I h) λv j ⟨x,c,d,i,g⟩=>⟨x,b,c,d,i,g⟩))
def lIf(tc:TT)(tb u:TL):TL:=λD a H=>tc a H λb c=>if b=true then tb { D with nx:=u D } a c else u D a c
theorem qcV(hc:PT X c tc)(hb:PL X body tb)(j:PL X rest u):PL X (.If c body [] pos::rest) (lIf tc tb u):=by
 intro a s b H D I h;show xP (wpAny_If (thn (hc a s b H _ I h) λd m ⟨g,i,l⟩=>?_))
 cases d with
 | true =>
  show thn (hb a m b g _ i l) λf o q=>?_
  cases f with
  | next=>obtain⟨e,H',n,q⟩:=q;show j a o e H' D n q
  | ret v=>show q
  | brk=>show q.elim
  | cont=>show q.elim
 | false=>show XH (j a m b g D i l)
end
def qcW(sc:Scope)(cells:List (Str×Addr))(N:LN)(a:St)(H:Hp):Hp:=λb =>
 match ((List.range N.length).findSome? λi=>match N[i]?,a[i]? with
  | some x,some (some v)=>if sc.names.lookup x=some .cell/\cells.lookup x=some b then some v else none
  | _,_=>none) with
 | some v=>some (CelO b v)
 | none=>H b
section
variable{sc:Scope}{cells:List (Str×Addr)}{N:LN}{σ:St}{H:Hp}{b:Addr}{o:HO}
theorem qeN(e:qcW sc cells N σ H b=some o):H b=some o\/∃(i:Nat) (x:Str) (v:V),N[i]?=some x/\σ[i]?=some (some v)/\sc.names.lookup x=some .cell/\cells.lookup x=some b/\o=CelO b v:=by
 unfold qcW at e;split at e
 .rename_i v q
  obtain⟨i,_,q⟩:=xv q;split at q
  .rename_i x v2 e1 e2
   split at q
   .rename_i hc
    cases q;show .inr ⟨i,x,v,e1,e2,hc.1,hc.2,(yl e).symm⟩
   .cases q
  .cases q
 .show .inl e
theorem qcm(e:H b=some o)(a:∀ x c,cells.lookup x=some c->H c=none):qcW sc cells N σ H b=some o:=by
 unfold qcW;split
 .rename_i v q
  obtain⟨i,_,q⟩:=xv q;split at q
  .split at q
   .rename_i hc
    rw[a _ _ hc.2] at e;cases e
   .cases q
  .cases q
 .show e
theorem endC_none(e:H b=none)(a:∀ x,cells.lookup x≠some b):qcW sc cells N σ H b=none:=by
 cases q:qcW sc cells N σ H b with
 | none=>rfl
 | some u =>
  rcases qeN q with z | ⟨i,x,v,_,_,_,z,_⟩
  .rw [e] at z;cases z
  .show absurd z (a x)
theorem endC_cell(f:N.Nodup)(inj:∀ x y c,cells.lookup x=some c->cells.lookup y=some c->x=y)(h1:N[i]?=some x)(a:σ[i]?=some (some v))(e:sc.names.lookup x=some .cell)(d:cells.lookup x=some b):qcW sc cells N σ H b=some (CelO b v):=by
 unfold qcW;split
 .rename_i v3 q
  obtain⟨j,_,q⟩:=xv q;split at q
  .rename_i y v2 e1 e2
   split at q
   .rename_i hc
    cases q;have:y=x:=inj _ _ _ hc.2 d;subst this;have:j=i:=qaG f e1 h1;subst this;rw[e2] at a;cases a;rfl
   .cases q
  .cases q
 .rename_i q
  have g:i<N.length:=(yc.mp h1).1;have z:=List.findSome?_eq_none_iff.mp q i (Xd.mpr g);rw[h1,a] at z;simp[e,d] at z
end
theorem Inv.ends{X:Cx}{a:List (Addr×Obj)}{f:St}{s:Shared}(I:Inv X a f H s)(cab:∀ x c,X.env.cells.lookup x=some c->X.s₀.heap.objs.size<=c) :
  Un X.fs X.ex X.H₀ (qcW X.env.scope X.env.cells X.N f H) X.s₀.heap s.heap/\HOk X.prog X.w (qcW X.env.scope X.env.cells X.N f H) s.heap:=by
 have old:∀ b o,H b=some o->qcW X.env.scope X.env.cells X.N f H b=some o:=λb o e=>qcm e I.freeC;have B:=I.base;show⟨⟨B.keep,B.slot,λb o e n h=>endC_none (B.free b o e n h) λx z=>absurd (yi (yy e) (cab x b z)) (yU _),B.there,λb xs e=>old _ _ (B.tups b xs e),λb o u e=>old _ _ (B.frzs b o u e),λb ps e=>let ⟨m,q⟩:=B.tbls b ps e;⟨m,old _ _ q⟩⟩,λb u e=>?_⟩;rcases qeN e with z | ⟨i,x,v,h1,h2,h3,h4,rfl⟩
 .show(I.hok b u z).stay (λ_ _ _ q=>q) (λd q=>old _ _ q) λd xs q=>old _ _ q
 .obtain⟨m,_,hl⟩:=I.loc;obtain⟨u,r,l⟩:=hl i x v h1 h2 (.inr (.inl h3));rcases l with⟨k,_⟩ | ⟨_,c,g,z⟩
  .have k:X.env.scope.names.lookup x=some .local:=k;rw[h3] at k;cases k
  .rw [h4] at g;cases g;show CelO.ok ⟨u,r,z⟩
def dcl(n:Addr)(st:Stmt)(x:Str):Addr:=((cellsFrom n (qd st).names []).lookup x).getD 0
theorem Fun.okL{CX:CXT}{P:Program}{K:yf}{d:Str}{st:Stmt}{z:FuncData}{N ps:LN}{k:Nat}{sp:Sp}(F:Fun K x d st f z)(C:z.code=.ref c)(S:FnScope N ps (qd st))(len:∀ vs H Q E,sp vs H Q E->vs.length=ps.length)
  (g:∀(A:Around) (a:List Env) (s:Shared) (H:Hp) (vs:List V) (Q:VK) (E:XK),Room k (A.deeper (envOfC d (qd st) s.heap.objs.size f (.ref c)))->sp vs H Q E ->
   ∃ t,PL (qe7 CX P w K mg base N d (qd st) f (.ref c) A a s H E) (jJ st) t /\
    t { nx:=λ_ _=>False,rs:=λv i H'=>(∀ x y c,(cellsFrom (s.heap.objs.size+1) (qd st).names []).lookup x=some c->(cellsFrom (s.heap.objs.size+1) (qd st).names []).lookup y=some c->x=y)->(∀ x c,(cellsFrom (s.heap.objs.size+1) (qd st).names []).lookup x=some c->H' c=none)->Q v (qcW (qd st) (cellsFrom (s.heap.objs.size+1) (qd st).names []) N i H') } (jP N vs) H):FnOk P w K mg base CX (k+1) f z ps sp:=by
 obtain⟨oc,od,kV,R,pm,an,p,ct,aa,rfl,lk,B⟩:=F.ex;obtain rfl:p=.ref c:=C;show⟨len,λA a s H args us vs Q E G l hb r m=>?_⟩;have hl:=len _ _ _ _ m;have M:K.In s.heap:=l.mod.kin.keeps λb o e=>(l.bs b o e).1;have L:s.heap.NoLimit:=l.mod.nolimit.keeps λb o e=>(l.bs b o e).1
 have h:∀ y∈ps.zip us,(qd st).names.lookup y.1=some .local\/((qd st).names.lookup y.1=some .cell/\((cellsFrom (s.heap.objs.size+1) (qd st).names []).lookup y.1).isSome=true):=λ⟨n,v⟩ Z=>by
  rcases S.par n (XI Z).1 with q | q
  .show .inl q
  .show .inr ⟨q,Xf _ _ _ (.inl q)⟩
 show codeAny_call_function G.depth (M _ _ lk) rfl S.co S.gen rfl (PySem.W.codeRec_of M B) (hb _ _ _ _ ?_);show wpAny_newFunctionEnv_cells S.kind h λenv U O x=>?_;subst U;show⟨L.keeps x.toInCall.keep,codeAny_func ?_⟩;obtain⟨t,Y,X⟩:=g A a s H vs Q E (G.deeper _) m;have I:Inv (qe7 CX P w K mg base N d (qd st) f (.ref c) A a s H E) [] (jP N vs) H O:=qcJ S G.hd l hl r x;show Yd (Y [] O (jP N vs) H _ I X) (λT s' j=>?_) λe s' j=>j
 cases T with
 | ret u =>
  obtain⟨v,i,H',J,rv,q⟩:=j;obtain⟨un,D⟩:=J.ends λx c e=>I.ok.cab x c rfl e;show⟨v,_,J.os,J.bare,un,D,rv,q J.ok.inj J.freeC⟩
 | next =>
  obtain⟨i,H',J,q⟩:=j;show False.elim q
 | brk=>show False.elim j
 | cont=>show False.elim j
end L2
namespace L2
open PySem PySem.Spec PyProof PyProof.Rows
theorem int_eq_dict(b:Int)(u:Tok)(l:Addr)(o:Obj)(e:Array DictEntry)(ep:Nat) :
  Meets (Builtin.«int.__eq__» ⟨[.int b u,.ref l],[]⟩) (λ_ R s=>(s.heap.get? l=some o/\o.cls=.type "dict"/\o.data=.dict e ep)/\R (.ok (.ret .notImplemented)) s):=
 .of_wp λprog w A R s h=>by obtain⟨j,g,d,tk,m⟩:=s;obtain⟨⟨hl,hc,a⟩,h⟩:=h;obtain⟨c,i,f,n⟩:=o;simp only at hc a;subst hc a;wp_walk using wpAny_loadPart' hl,wpAny_load hl;show⟨_,rfl,h⟩
section
variable{prog:Program}{w:World}{A:Around}{E:Value->Shared->Prop}{s:Shared}
theorem dict_int{a:Addr}{o:Obj}{e:Array DictEntry}{ep:Nat}{b:Int}{u:Tok}{Q:Value->Shared->Prop}(d:s.TypeIs (.ref a) "dict")(g:s.heap.get? a=some o)(hc:o.cls=.type "dict")(f:o.data=.dict e ep)(i:A.units<cLine)(h:Q (.bool false) s):wpAny (model prog w) A (richCompare .Eq (.ref a) (.int b u)) Q E s:=by
 show Xk (k:=false) d (rfl) (by decide) PySem.F.sub_int_dict PySem.F.slot_dict_eq PySem.F.slot_int_eq_refl (λj c=>?_)
  (λ_ c=>xi PySem.F.slot_int_eq_refl (rfl) PySem.F.entry_int_eq (PySem.F.args_int_eq_2 _ _) (int_eq_dict b u a o e ep) ⟨⟨g,hc,f⟩,c⟩) (λ_ c=>YA (rfl:isSame (.ref a) (.int b u)=pure false) c) (.inr i) h
 show Xw PySem.F.slot_dict_eq d Xp ?_ (Xl _ _);show wpAny _ _ (Builtin.Dict.dictSlotArgs "__eq__" ⟨[.ref a,.int b u],[]⟩>>=_) _ _ s;show yp ?_;unfold Builtin.Dict.dictSlotArgs;show yp (Xq d ?_);show wpAny _ _ (pure (Value.ref a,Value.int b u)) _ _ s;show yu ?_;show yp (kz (T:="int") (b:=false) (rfl) PySem.F.sub_int_dict ?_);simp only[kg,xI];show yp (wpAny_rule (yu ⟨_,rfl,c⟩))
end
def rRefI(K:yf):R2:=λx y H Q=>∃ a i,x=.ref a/\y=.int i/\((∃ xs,SqL K H a xs\/SqT K H a xs)\/∃ kvs,H a=some (.dK kvs))/\Q (.bl false) H
def qhi(K:yf):R2:=λx y H Q=>qhD K x y H Q\/rRefI K x y H Q
theorem qbW{X:Cx}{K:yf}(f:X.K=K)(z:X.A.units+100<cLine):OpR X (compareOp .Eq) (qhi K):=by
 intro b s l H x y u v Q I g j h;rcases h with h | ⟨a,i,rfl,rfl,h,q⟩
 .show qch f z b s l H x y u v Q I g j h
 .subst f;cases g;obtain⟨ti,rfl⟩:=j;have c:EP X b l Q (.bool false) s:=⟨.bl false,H,I,rfl,q⟩;rcases h with⟨xs,hl | hl⟩ | ⟨kvs,m⟩
  .obtain⟨e,r,pl,_⟩:=I.list hl;show SeqAt.RcAt.list_int i ti pl.isList (by lk) _ _ _ _ c
  .obtain⟨e,r,pl,_⟩:=I.tuple hl;show SeqAt.RcAt.tuple_int i ti pl (by lk) _ _ _ _ c
  .obtain⟨_,_,vs,_,d⟩:=(show ObjOk X.prog X.w H s.heap a (.dK kvs) from I.hok a _ m);have n:=d.typeIs;obtain⟨o,C,ep,t,B,p,_⟩:=d;show dict_int n t B.1 p (by lk) c
end L2
namespace K15
open PySem L2 PyProof.Rows
variable{A:Around}{C a b c cp cw dx f l l' p q r sa t tb x:Addr}{CX:CXT}{D:Ends}{E:XK}{H H' H0 H1 H2 J:Hp}{K:W.Frag}{P:Program}{base:Heap}{body:Expr}{cc:Nat->Addr}{d lo ol v y:V}{dps kd seen tps ups:LS}{e:Bool}{fd:FuncData}{g:TG}{h:Int}{i j m n:Nat}{js ns:LQ}{ll ml ps ss tr:LN}{mg:Str->Option Value}{nz:LY}{o:Option (List V)}{params:Arguments}{s st u z:Str}{scope:Scope}{ts us:LX}{vs xs ys:List V}{w:World}{α β:Type}{σ:L2.St}
theorem Sr(H:Hp):L2.Same H H:=L2.Same.refl H
theorem zT{k:Nat}(a:Room k A):A.units+100<cLine:=by have:=a.un;lk
theorem hmR{k:Nat}(a:Room k A)(h:j<=k:=by decide):Room j A:=a.mono h
theorem KN:FnScope wqr wqr (qd jp):=fS
theorem K7:FnScope wqa wqa (qd jU):=fS
theorem ug:FnScope wql wql (qd zc):=fS
theorem K0:FnScope wqa wqa (qd jK):=fS
theorem uh:FnScope wqa wqa (qd zd):=fS
theorem K1:FnScope wqJ wqJ (qd jL):=fS
theorem K8:FnScope wqR wqR (qd jV):=fS
theorem K9:FnScope wqa wqa (qd jW):=fS
theorem ua:FnScope wh wh (qd jX):=fS
theorem KO:FnScope wqa wqa (qd jq):=fS
local macro_rules | `(tactic| walk_at "w")=>`(tactic| first
 | with_reducible refine vSeq ?_ | with_reducible refine vAsg ?_ | with_reducible refine vAsgS ?_ | with_reducible refine qhz ?_ | with_reducible refine vRet ?_ | with_reducible refine qgB ?_ | with_reducible refine vC ?_
 | ((with_reducible refine' vVar ?hv ?_);(case hv=>rfl)) | with_reducible refine vOp ?_ | with_reducible refine vChain ?_ | with_reducible refine vNil ?_ | with_reducible refine qeA ?_ | with_reducible refine vCB ?_ | with_reducible refine qgC ?_
 | with_reducible refine qhA ?_ | with_reducible refine vTup ?_ | with_reducible refine qfh ?_ | with_reducible refine vB ?_ | with_reducible refine vNot ?_ | with_reducible refine vAnd ?_ | with_reducible refine vOr ?_
 | with_reducible refine vAndV ?_ | with_reducible refine vOrV ?_ | with_reducible refine vNotV ?_ | with_reducible refine vYes ?_ | with_reducible refine vLeI ?_ | with_reducible refine vLeS ?_ | with_reducible refine vIsB ?_ | with_reducible refine vAddI ?_ | with_reducible refine vSl ?_ | with_reducible refine vNoPart ?_ | with_reducible refine vPart ?_ | with_reducible refine vExI ?_ | with_reducible refine vBM ?_ | with_reducible refine vBM0 ?_ | with_reducible refine vComp ?_ | with_reducible refine vFor ?_ | with_reducible refine vRng1 ?_ | with_reducible refine vAny ?_ | with_reducible refine vGN ?_ | with_reducible refine vI0 ?_ | with_reducible refine vEqI ?_ | with_reducible refine vEqB ?_ | with_reducible refine vEx ?_ | with_reducible refine vDrop ?_ | with_reducible refine vRetN ?_ | with_reducible refine vFldU ?_ | with_reducible refine vSFldU ?_ | with_reducible refine vXMake ?_ | with_reducible refine vMake ?_ | with_reducible refine vMeth ?_ | with_reducible refine vVinit ?_ | with_reducible refine vCallS ?_ | with_reducible refine vRaise ?_ | with_reducible refine vMethS ?_ | with_reducible refine vMakeS ?_ | with_reducible refine vUn ?_ | with_reducible refine vIf ?_ | with_reducible refine vRev ?_ | with_reducible refine vEnum ?_ | with_reducible refine vDGet2 ?_ | with_reducible refine vStep ?_)
local macro_rules | `(tactic| walk_at "v")=>`(tactic| repeat walk_at "w")
local macro_rules | `(tactic| ext)=>`(tactic| walk_at "v")
local macro_rules | `(tactic| apply $e)=>`(tactic| (ext;refine $e))
def qam(i:Nat):Str:=if i=1 then "name" else if i=4 then "many" else if i=7 then "at" else "found"
structure Txt(K:W.Frag)(mg:Str->Option Value)(cc:Nat->Addr)(cw:Addr):Prop where
 b_len:mg "len"=none
 b_int:mg "int"=none
 b_enumerate:mg "enumerate"=none
 b_all:mg "all"=none
 b_max:mg "max"=none
 b_min:mg "min"=none
 b_isinstance:mg "isinstance"=none
 b_bool:mg "bool"=none
 b_str:mg "str"=none
 b_range:mg "range"=none
 b_list:mg "list"=none
 b_tuple:mg "tuple"=none
 b_ValueError:mg "ValueError"=none
 g_LONGEST_NAME:∃ tk,mg "LONGEST_NAME"=some (.int 6 tk)
 g_MOST_PLACES:∃ tk,mg "MOST_PLACES"=some (.int 14 tk)
 g_MOST_TIES:∃ tk,mg "MOST_TIES"=some (.int 30 tk)
 m_NoName:mg "NoName"=some (.ref (cc 0))
 m_Twice:mg "Twice"=some (.ref (cc 1))
 m_NoPlace:mg "NoPlace"=some (.ref (cc 2))
 m_NoTie:mg "NoTie"=some (.ref (cc 3))
 m_TooMany:mg "TooMany"=some (.ref (cc 4))
 m_NoMove:mg "NoMove"=some (.ref (cc 5))
 m_NoBack:mg "NoBack"=some (.ref (cc 6))
 m_NoText:mg "NoText"=some (.ref (cc 7))
 m_NoNumbers:mg "NoNumbers"=some (.ref (cc 8))
 m_OnceError:mg "OnceError"=some (.ref (cc 9))
 vinit:VInit K
 xat:∀ i,i<9+1->XAt K (cc i)
 na:∀ i,i<9->NoAttr K (cc i) (qam i)
 kit:∀ i j,i<9->j<9->W.kitOne K (.ref (cc i)) (.ref (cc j))=some (decide (i=j))
 kitV:∀ i,i<9+1->W.kitOne K (.ref (cc i)) (.type "ValueError")=some true
 mroO:∀ i,i<9->W.mroIn K (cc i) (.ref (cc 9))=some true
 wcl:Cls K cw
 wn:NoAttr K cw "numbers"
 wo:NoAttr K cw "order"
 wr:NoAttr K cw "near"
 m_Web:mg "Web"=some (.ref cw)
 m_Play:mg "Play"=some (.ref (cc 10))
 pcl:Cls K (cc 10)
 pb:NoAttr K (cc 10) "board"
 pp:NoAttr K (cc 10) "path"
 g_MOST_FOR_ROWS:∃ tk,mg "MOST_FOR_ROWS"=some (.int 3 tk)
 g_MOST_FOR_THEIR_NUMBER:∃ tk,mg "MOST_FOR_THEIR_NUMBER"=some (.int 5 tk)
 mr:∀ i j,i<9->j<9->W.mroIn K (cc i) (.ref (cc j))=some (decide (i=j))
def zZ(K:W.Frag):Sp:=λvs H Q _=>∃(e C:Addr) (y:V),vs=[.ref e,y]/\H e=some (XN e C none)/\XAt K C/\Q .non H
def qhj(C:Addr):Sp:=λvs H Q _=>∃(e:Addr),vs=[.ref e]/\H e=some (XN e C none)/\Q .non H
def spX(C:Addr)(a:Str):Sp:=λvs H Q _=>∃(e:Addr) (v:V),vs=[.ref e,v]/\H e=some (XN e C none)/\∀ dx,H dx=none->Q .non (upd (upd H dx (.xd [(a,v)])) e (XN e C (some dx)))
section
variable{P:Program}{w:World}{K:W.Frag}{mg:Str->Option Value}{base:Heap}{cc:Nat->Addr}{cw:Addr}{f:Addr}{fd:FuncData}
theorem ok_once(F:Fun K "__init__" "OnceError.__init__" jp f fd)(T:Txt K mg cc cw):wqY 1 f fd wqr (zZ K):=by
 show F.ok KN (λvs H Q E h=>?_) λ_ _ _ _ H vs Q E b h=>?_
 .obtain⟨e,C,y,rfl,_⟩:=h;rfl
 .obtain⟨e,C,y,rfl,a,c,q⟩:=h;show⟨_,(qf (qB (k_vinit (K:=K) rfl T.vinit rfl T.b_ValueError boot_ValueError (qa (pv 0) (qa (pv 1) qb))))),?_⟩;apply⟨e,C,y,rfl,a,c,q⟩
theorem ok_NoName(F:Fun K "__init__" "NoName.__init__" jU f fd)(T:Txt K mg cc cw)(c:CMethOk P w K mg base CX0 1 (cc 9) "OnceError" "__init__" wqr (zZ K)) :
  wqY 2 f fd wqa (spX (cc 0) (qam 0)):=by
 show F.ok K7 (λvs H Q E h=>?_) λ_ _ _ _ H vs Q E b h=>?_
 .obtain⟨e,v,rfl,_⟩:=h;rfl
 .obtain⟨e,v,rfl,a,q⟩:=h;show⟨_,(qe (qB (jS c (hmR b) (qa (pv 0) (qa jN qb))))
 (qf (ju (K:=K) rfl (pv 0) (pv 1) rfl))),?_⟩
  apply⟨e,_,_,rfl,a,T.xat 0 (by decide),?_⟩;apply .inr ⟨e,_,rfl,a,T.xat 0 (by decide),T.na 0 (by decide),q⟩
theorem ok_Twice(F:Fun K "__init__" "Twice.__init__" zc f fd)(T:Txt K mg cc cw)(c:CMethOk P w K mg base CX0 1 (cc 9) "OnceError" "__init__" wqr (zZ K)) :
  wqY 2 f fd wql (spX (cc 1) (qam 1)):=by
 show F.ok ug (λvs H Q E h=>?_) λ_ _ _ _ H vs Q E b h=>?_
 .obtain⟨e,v,rfl,_⟩:=h;rfl
 .obtain⟨e,v,rfl,a,q⟩:=h;show⟨_,(qe (qB (jS c (hmR b) (qa (pv 0) (qa jN qb))))
 (qf (ju (K:=K) rfl (pv 0) (pv 1) rfl))),?_⟩
  apply⟨e,_,_,rfl,a,T.xat 1 (by decide),?_⟩;apply .inr ⟨e,_,rfl,a,T.xat 1 (by decide),T.na 1 (by decide),q⟩
theorem ok_NoPlace(F:Fun K "__init__" "NoPlace.__init__" jK f fd)(T:Txt K mg cc cw)(c:CMethOk P w K mg base CX0 1 (cc 9) "OnceError" "__init__" wqr (zZ K)) :
  wqY 2 f fd wqa (spX (cc 2) (qam 2)):=by
 show F.ok K0 (λvs H Q E h=>?_) λ_ _ _ _ H vs Q E b h=>?_
 .obtain⟨e,v,rfl,_⟩:=h;rfl
 .obtain⟨e,v,rfl,a,q⟩:=h;show⟨_,(qe (qB (jS c (hmR b) (qa (pv 0) (qa jN qb))))
 (qf (ju (K:=K) rfl (pv 0) (pv 1) rfl))),?_⟩
  apply⟨e,_,_,rfl,a,T.xat 2 (by decide),?_⟩;apply .inr ⟨e,_,rfl,a,T.xat 2 (by decide),T.na 2 (by decide),q⟩
theorem ok_NoTie(F:Fun K "__init__" "NoTie.__init__" zd f fd)(T:Txt K mg cc cw)(c:CMethOk P w K mg base CX0 1 (cc 9) "OnceError" "__init__" wqr (zZ K)) :
  wqY 2 f fd wqa (spX (cc 3) (qam 3)):=by
 show F.ok uh (λvs H Q E h=>?_) λ_ _ _ _ H vs Q E b h=>?_
 .obtain⟨e,v,rfl,_⟩:=h;rfl
 .obtain⟨e,v,rfl,a,q⟩:=h;show⟨_,(qe (qB (jS c (hmR b) (qa (pv 0) (qa jN qb))))
 (qf (ju (K:=K) rfl (pv 0) (pv 1) rfl))),?_⟩
  apply⟨e,_,_,rfl,a,T.xat 3 (by decide),?_⟩;apply .inr ⟨e,_,rfl,a,T.xat 3 (by decide),T.na 3 (by decide),q⟩
theorem ok_TooMany(F:Fun K "__init__" "TooMany.__init__" jL f fd)(T:Txt K mg cc cw)(c:CMethOk P w K mg base CX0 1 (cc 9) "OnceError" "__init__" wqr (zZ K)) :
  wqY 2 f fd wqJ (spX (cc 4) (qam 4)):=by
 show F.ok K1 (λvs H Q E h=>?_) λ_ _ _ _ H vs Q E b h=>?_
 .obtain⟨e,v,rfl,_⟩:=h;rfl
 .obtain⟨e,v,rfl,a,q⟩:=h;show⟨_,(qe (qB (jS c (hmR b) (qa (pv 0) (qa jN qb))))
 (qf (ju (K:=K) rfl (pv 0) (pv 1) rfl))),?_⟩
  apply⟨e,_,_,rfl,a,T.xat 4 (by decide),?_⟩;apply .inr ⟨e,_,rfl,a,T.xat 4 (by decide),T.na 4 (by decide),q⟩
theorem ok_NoMove(F:Fun K "__init__" "NoMove.__init__" jW f fd)(T:Txt K mg cc cw)(c:CMethOk P w K mg base CX0 1 (cc 9) "OnceError" "__init__" wqr (zZ K)) :
  wqY 2 f fd wqa (spX (cc 5) (qam 5)):=by
 show F.ok K9 (λvs H Q E h=>?_) λ_ _ _ _ H vs Q E b h=>?_
 .obtain⟨e,v,rfl,_⟩:=h;rfl
 .obtain⟨e,v,rfl,a,q⟩:=h;show⟨_,(qe (qB (jS c (hmR b) (qa (pv 0) (qa jN qb))))
 (qf (ju (K:=K) rfl (pv 0) (pv 1) rfl))),?_⟩
  apply⟨e,_,_,rfl,a,T.xat 5 (by decide),?_⟩;apply .inr ⟨e,_,rfl,a,T.xat 5 (by decide),T.na 5 (by decide),q⟩
theorem ok_NoBack(F:Fun K "__init__" "NoBack.__init__" jX f fd)(T:Txt K mg cc cw)(c:CMethOk P w K mg base CX0 1 (cc 9) "OnceError" "__init__" wqr (zZ K)) :
  wqY 2 f fd wh (qhj (cc 6)):=by
 show F.ok ua (λvs H Q E h=>?_) λ_ _ _ _ H vs Q E b h=>?_
 .obtain⟨e,rfl,_⟩:=h;rfl
 .obtain⟨e,rfl,a,q⟩:=h;show⟨_,(qf (qB (jS c (hmR b) (qa (pv 0) (qa jN qb))))),?_⟩;apply⟨e,_,_,rfl,a,T.xat 6 (by decide),q⟩
theorem ok_NoText(F:Fun K "__init__" "NoText.__init__" jV f fd)(T:Txt K mg cc cw)(c:CMethOk P w K mg base CX0 1 (cc 9) "OnceError" "__init__" wqr (zZ K)) :
  wqY 2 f fd wqR (spX (cc 7) (qam 7)):=by
 show F.ok K8 (λvs H Q E h=>?_) λ_ _ _ _ H vs Q E b h=>?_
 .obtain⟨e,v,rfl,_⟩:=h;rfl
 .obtain⟨e,v,rfl,a,q⟩:=h;show⟨_,(qe (qB (jS c (hmR b) (qa (pv 0) (qa jN qb))))
 (qf (ju (K:=K) rfl (pv 0) (pv 1) rfl))),?_⟩
  apply⟨e,_,_,rfl,a,T.xat 7 (by decide),?_⟩;apply .inr ⟨e,_,rfl,a,T.xat 7 (by decide),T.na 7 (by decide),q⟩
theorem ok_NoNumbers(F:Fun K "__init__" "NoNumbers.__init__" jq f fd)(T:Txt K mg cc cw)(c:CMethOk P w K mg base CX0 1 (cc 9) "OnceError" "__init__" wqr (zZ K)) :
  wqY 2 f fd wqa (spX (cc 8) (qam 8)):=by
 show F.ok KO (λvs H Q E h=>?_) λ_ _ _ _ H vs Q E b h=>?_
 .obtain⟨e,v,rfl,_⟩:=h;rfl
 .obtain⟨e,v,rfl,a,q⟩:=h;show⟨_,(qe (qB (jS c (hmR b) (qa (pv 0) (qa jN qb))))
 (qf (ju (K:=K) rfl (pv 0) (pv 1) rfl))),?_⟩
  apply⟨e,_,_,rfl,a,T.xat 8 (by decide),?_⟩;apply .inr ⟨e,_,rfl,a,T.xat 8 (by decide),T.na 8 (by decide),q⟩
theorem uN:FnScope wqK wqK (qd qaa):=fS
theorem uO:FnScope wqM wqM (qd qa0):=fS
theorem uG:FnScope wqy wqy (qd qan):=fS
theorem Kq:FnScope ["numbers","thing","both"] wqy (qd jr):=fS
theorem qF{o:HO}(a:L2.Same H H1)(hl:H1 l=none):L2.Same H (upd H1 l o):=λc u e=>by
 have q:=a c u e;rw[qh (qq q hl)];show q
theorem qe9{o:HO}(a:L2.Same H H1)(hl:H l=none):L2.Same H (upd H1 l o):=λc u e=>by
 rw[qh (qq e hl)];show a c u e
def sg(c:Nat):Bool:=if (!decide (([c]:LQ)<("a":Str).cps.toList))=true then !decide (("z":Str).cps.toList < [c]) else false
def jG(x:Str):Bool:=if 1<=x.length/\x.length<=6 then x.cps.toList.all sg else false
def qaA:V->Bool
 | .str x=>jG x
 | _=>false
def qQ:V->Str
 | .str x=>x
 | _=>""
theorem ji{x:V}(h:qaA x=true):x=.str (qQ x)/\jG (qQ x)=true/\(qQ x).length<=6:=by
 cases x with
 | str y =>
  show⟨rfl,h,?_⟩;have h':jG y=true:=h;unfold jG at h';split at h'
  .rename_i z;show z.2
  .cases h'
 | _=>cases h
inductive Th(p:Addr)(H:Hp):Nat->V->Prop
 | flat {n:Nat} {v:V} (f:qM v=true) (l:∀ s,v=.str s->s.length<=100000):Th p H n v
 | lst {n:Nat} {a:Addr} {xs:List V} (e:H a=some (.lst xs)) (ne:a≠p) (h:∀ x∈xs,Th p H n x) (l:xs.length<=1000):Th p H (n+1) (.ref a)
 | tup {n:Nat} {a:Addr} {xs:List V} (e:H a=some (.tup xs)) (ne:a≠p) (h:∀ x∈xs,Th p H n x) (l:xs.length<=1000):Th p H (n+1) (.ref a)
 | dct {n:Nat} {a:Addr} {kvs:List (Key×V)} (e:H a=some (.dK kvs)) (ne:a≠p):Th p H n (.ref a)
theorem Th.mono:∀{n:Nat} {v:V},Th p H n v->Th p H (n+1) v
 | _,_,.flat f l=>.flat f l
 | _,_,.lst e ne h l=>.lst e ne (λx a=>(h x a).mono) l
 | _,_,.tup e ne h l=>.tup e ne (λx a=>(h x a).mono) l
 | _,_,.dct e ne=>.dct e ne
theorem Th.keep(k:∀ b o,b≠p->H b=some o->H' b=some o):∀{n:Nat} {v:V},Th p H n v->Th p H' n v
 | _,_,.flat f l=>.flat f l
 | _,_,.lst e ne h l=>.lst (k _ _ ne e) ne (λx a=>(h x a).keep k) l
 | _,_,.tup e ne h l=>.tup (k _ _ ne e) ne (λx a=>(h x a).keep k) l
 | _,_,.dct e ne=>.dct (k _ _ ne e) ne
theorem Th.same(h:Th p H n v)(s:L2.Same H H'):Th p H' n v:=h.keep λb o _ e=>s b o e
inductive Arg(p:Addr)(H:Hp):V->Option (List V)->Prop
 | lst {a:Addr} {xs:List V} (e:H a=some (.lst xs)) (ne:a≠p) (h:∀ x∈xs,Th p H 2 x) (l:xs.length<=1000):Arg p H (.ref a) (some xs)
 | tup {a:Addr} {xs:List V} (e:H a=some (.tup xs)) (ne:a≠p) (h:∀ x∈xs,Th p H 2 x) (l:xs.length<=1000):Arg p H (.ref a) (some xs)
 | flat {v:V} (f:qM v=true) (l:∀ s,v=.str s->s.length<=100000):Arg p H v none
 | dct {a:Addr} {kvs:List (Key×V)} (e:H a=some (.dK kvs)) (ne:a≠p):Arg p H (.ref a) none
theorem Arg.keep(k:∀ b o,b≠p->H b=some o->H' b=some o)(h:Arg p H v o):Arg p H' v o:=by
 cases h with
 | lst e ne h l=>show .lst (k _ _ ne e) ne (λx a=>(h x a).keep k) l
 | tup e ne h l=>show .tup (k _ _ ne e) ne (λx a=>(h x a).keep k) l
 | flat f l=>show .flat f l
 | dct e ne=>show .dct (k _ _ ne e) ne
theorem Arg.same(h:Arg p H v o)(s:L2.Same H H'):Arg p H' v o:=h.keep λb o _ e=>s b o e
def isB:V->Bool
 | .bl _=>true
 | _=>false
theorem Th.ty(h:Th p H n v):∃ t∈wqo,TyOf K H v (.type t)/\(qbU t "str"=true->∃ x,v=.str x/\x.length<=100000)/\(qbU t "str"=false->qaA v=false) /\
  (qbU t "tuple"=true->∃ a xs,v=.ref a/\H a=some (.tup xs)/\xs.length<=1000/\∀ x∈xs,Th p H n x)/\(qbU t "tuple"=false->∀ a xs,v=.ref a->H a≠some (.tup xs))/\qbU t "bool"=isB v:=by
 have c:∀{P:Prop} {a b:String},qbU a b=false->qbU a b=true->P:=λh1 d=>by rw[h1] at d;cases d
 have g:∀{P:Prop} {a b:String},qbU a b=true->qbU a b=false->P:=λh1 d=>by rw[h1] at d;cases d
 cases h with
 | flat f l =>
  cases v with
  | non=>show⟨_,by simp,.non,c (by decide),λ_=>rfl,c (by decide),λ_ _ _ e=>by(cases e),rfl⟩
  | bl x=>show⟨_,by simp,.bl x,c (by decide),λ_=>rfl,c (by decide),λ_ _ _ e=>by(cases e),rfl⟩
  | int x=>show⟨_,by simp,.int x,c (by decide),λ_=>rfl,c (by decide),λ_ _ _ e=>by(cases e),rfl⟩
  | str x=>show⟨_,by simp,.str x,λ_=>⟨x,rfl,l x rfl⟩,g (by decide),c (by decide),λ_ _ _ e=>by(cases e),rfl⟩
  | _=>cases f
 | lst e ne h l=>show⟨_,by simp,.lst e,c (by decide),λ_=>rfl,c (by decide),λ_ _ _ z=>by(cases z;rw[e];intro y;cases y),rfl⟩
 | tup e ne h l=>show⟨_,by simp,.tup e,c (by decide),λ_=>rfl,λ_=>⟨_,_,rfl,e,l,λx i=>(h x i).mono⟩,g (by decide),rfl⟩
 | dct e ne=>show⟨_,by simp,.dK e,c (by decide),λ_=>rfl,c (by decide),λ_ _ _ z=>by(cases z;rw[e];intro y;cases y),rfl⟩
def qeO:Sp:=λvs H Q _=>∃(p:Addr) (n:Nat) (v:V),vs=[v]/\Th p H n v/\∀ H',L2.Same H H'->Q (.bl (qaA v)) H'
theorem ok_name(F:Fun K "is_name" "is_name" qaa f fd)(T:Txt K mg cc cw):wqY 1 f fd wqK qeO:=by
 show F.ok uN (λvs H Q E h=>?_) λ_ _ _ _ H vs Q E D h=>?_
 .obtain⟨p,n,v,rfl,_⟩:=h;rfl
 .obtain⟨p,n,v,rfl,hv,q⟩:=h;show⟨_,(qe (jf (PW.pt (qem (jQ (jg (qi (zb (K:=K) rfl) rfl T.b_isinstance yO (qa (pv 0) (qa (jz (v:=.ty "str") rfl T.b_str boot_str rfl) qb))))) (qcx (jQ (pt_chain qgf qgf qg (qi (zo (K:=K) rfl) rfl T.b_len YH (qa (pv 0) qb)) (qaQ rfl T.g_LONGEST_NAME)))))) (qf (qm qcv)) qu)
 (qf (qm (qi (k_all (K:=K) rfl rfl) rfl T.b_all boot_all (qa (zC (sc:=qd qaa) (XN:=wqK) ["sign"] 1 [] rfl rfl rfl (by room) rfl (by room)
  (jR (K:=K) rfl (pv 0)) (λ_ _ _ _=>(qr (i:=0) (show(["sign"]:LN).Nodup by room) rfl (yJ rfl))) zn
  (λ_ _ _ _=>qaN)
  (λ_ _ _ _=>(qdC qgf qgf jN (pv 0) jN))) qb))))),?_⟩
  obtain⟨t,u,ty,s,A,_,_,_⟩:=hv.ty (K:=K);apply qaV (.inl ty) rfl (qbc K t u "str" (by simp)) ?_;apply qU (λh=>?_) λh=>?_
  .ext;have z:=q H (Sr H);rw[A (by simpa using h)] at z;show z
  .obtain⟨x,rfl,B⟩:=s (by simpa using h);apply vLenS (yh B (by decide)) ?_;ext;have e:=q;simp only[qaA,jG] at e
   have a:¬ (1<=x.length/\x.length<=6)->∀ H',L2.Same H H'->Q (.bl false) H':=λhc H' s=>by
    have z:=e H' s;rw[yw hc] at z;show z
   show qU (λh1=>?_) λh1=>?_
   .ext;show qU (λg=>?_) λg=>?_
    .ext;show a (λh=>?_) H (Sr H);simp only[Xj,decide_eq_false_iff_not] at g;lk
    .ext
     have m:1<=x.length/\x.length<=6:=by
      have C:=yj h1;simp only[Xj,decide_eq_false_iff_not,Classical.not_not] at g;lk
     rw[yB m] at e;show comp_str (λi ys H'=>H'=H/\ys=((x.cps.toList.take i).map sg).map V.bl) ⟨rfl,by simp⟩ (λi c ys H' hc r=>?_) λys H' r=>?_
     .obtain⟨rfl,rfl⟩:=r;apply qbB ?_;ext
      have hl:(List.map V.bl (List.map sg (List.take i x.cps.toList))).length<sizeLine:=by
       rw[ya,ya,Yc];show qk (yh (kt _ _) (by simpa [Str.length] using(show x.length<=1000 by lk)))
      have d:∀ b,b=sg c->(List.map V.bl (List.map sg (List.take i x.cps.toList)))++[V.bl b]=List.map V.bl (List.map sg (List.take (i+1) x.cps.toList)):=by
       intro b hb;have y:x.cps.toList[i]?=some c:=by simpa using hc
       rw[hb,yT,y];simp
      show qU (λj=>?_) λj=>?_
      .ext;show⟨hl,rfl,d _ (by unfold sg;rw[yB j])⟩
      .show⟨hl,rfl,d _ (by unfold sg;rw[yw j])⟩
     .obtain⟨rfl,rfl⟩:=r;have u:x.cps.toList.take x.cps.size=x.cps.toList:=by rw[<- xy,Ye]
      rw[u];show⟨?_,λl hl=>?_⟩
      .rw [ya,ya];show Ym (qk (by simpa [Str.length] using(show x.length<=1000 by lk)))
      .ext;show⟨l,x.cps.toList.map sg,rfl,SqL.of qc,?_⟩;have z:=e _ (qF (Sr H') (o:=.lst ((x.cps.toList.map sg).map V.bl)) hl);rw[kB];show z
   .ext;show a (λh=>h1 (yL (by lk))) H (Sr H)
def qf5:Sp:=λvs H Q _=>∃ b n:Int,vs=[.int b,.int n]/\0<=n/\Q (.bl (decide (Builtin.bitAnd (b / 2 ^ n.toNat) 1=1))) H
theorem ok_bit(F:Fun K "has_bit" "has_bit" qa0 f fd):wqY 1 f fd wqM qf5:=by
 show F.ok uO (λvs H Q E h=>?_) λ_ _ _ _ H vs Q E c h=>?_
 .obtain⟨b,n,rfl,_⟩:=h;rfl
 .obtain⟨b,n,rfl,a,q⟩:=h;have d:=zT c;show⟨_,(qf (qm (zx (qch (K:=K) rfl d) (qD op_and (qD op_shr (pv 0) (pv 1)) qg) qg (qJ _)))),?_⟩;apply vI a ?_;apply .inl (.inl (.inl ⟨rfl,rfl,?_⟩));show q
def qa1:LN->Nat->List (Key×V)
 | [],_=>[]
 | s::r,i=>(.inr s,.int i)::qa1 r (i+1)
theorem qcX(y:Str):∀(ss:LN) (i:Nat),qa1 (ss++[y]) i=qa1 ss i++[(.inr y,.int (i+ss.length:Nat))]
 | [],i=>rfl
 | s::r,i=>by
  show(_::qa1 (r++[y]) (i+1))=_::(qa1 r (i+1)++_);rw[qcX y r (i+1)];have:i+1+r.length=i+(s::r).length:=by simp;lk
  rw[this]
theorem zH:∀(ss:LN) (i:Nat),(qa1 ss i).length=ss.length
 | [],_=>rfl
 | _::r,i=>congrArg (· + 1) (zH r (i+1))
theorem qbK{y:Str}:∀{ss:LN} {i:Nat},y∉ss->qaI (qa1 ss i) (.inr y:Key)=none
 | [],_,_=>rfl
 | s::r,i,h=>by
  have h1:¬ s=y:=λe=>h (by rw[e];show yC);show qaI ((.inr s,V.int i)::qa1 r (i+1)) _=none;rw[jc (p:=((.inr s:Key),V.int i)) (λe=>h1 (Sum.inr.inj e))];show qbK λm=>h (yz _ m)
theorem jO{y:Str}:∀{ss:LN} {i:Nat},y∈ss->∃ j,j<ss.length/\ss[j]?=some y/\qaI (qa1 ss i) (.inr y:Key)=some (.int (i+j:Nat))
 | [],_,h=>by cases h
 | s::r,i,h=>by
  by_cases e:s=y
  .subst e;show⟨0,by simp,rfl,jm (p:=((.inr s:Key),V.int i)) rfl⟩
  .rcases yt.mp h with z | z
   .show absurd z.symm e
   .obtain⟨j,h1,b,c⟩:=jO (i:=i+1) z;show⟨j+1,by simp;lk,by simpa using b,?_⟩;show qaI ((.inr s,V.int i)::qa1 r (i+1)) _=_;rw[jc (p:=((.inr s:Key),V.int i)) (λa=>e (Sum.inr.inj a)),c];have:i+1+j=i+(j+1):=by lk
    rw[this]
theorem qbL(y:Str)(ss:LN)(i:Nat):(qaI (qa1 ss i) (.inr y:Key)).isSome=decide (y∈ss):=by
 by_cases h:y∈ss
 .obtain⟨j,_,_,e⟩:=jO (i:=i) h;rw[e,yL h];rfl
 .rw [qbK h,yk h];rfl
def qI(ss:LN)(v:V):Bool:=if qaA v=true then decide (qQ v∈ss) else false
def qdq:Sp:=λvs H Q _=>∃(p:Addr) (n:Nat) (d:Addr) (ss:LN) (v:V),vs=[.ref d,v]/\H d=some (.dK (qa1 ss 0))/\Th p H n v/\∀ H',L2.Same H H'->Q (.bl (qI ss v)) H'
theorem ok_place(F:Fun K "is_place" "is_place" qan f fd)(g:wqW 1 "is_name" wqK qeO):wqY 2 f fd wqy qdq:=by
 show F.ok uG (λvs H Q E h=>?_) λ_ _ _ _ H vs Q E b h=>?_
 .obtain⟨p,n,d,ss,v,rfl,_⟩:=h;rfl
 .obtain⟨p,n,d,ss,v,rfl,i,hv,q⟩:=h;have j:=zT b;show⟨_,(qf (qm (qcy (qE g (hmR b) qN (qa (pv 1) qb)) (qbX (zx (qdm (K:=K) rfl j) (pv 1) (pv 0) (by with_unfolding_all rfl)))))),?_⟩;apply⟨p,n,v,rfl,hv,λH1 c=>?_⟩;ext;have a:=q H1 c;unfold qI at a;show qU (λhc=>?_) λhc=>?_
  .ext;rw[yB hc] at a;obtain⟨e,_,_⟩:=ji hc;generalize qQ v=x at a e;subst e;show .inr (.inl ⟨d,_,rfl,DGet.k (k:=Sum.inr x) (c d _ i),?_⟩);rw[qbL];show a
  .rw [yw hc] at a;show a
def qec(ss:LN)(y z:V):Bool:=qI ss y&&qI ss z&&!decide (qQ y=qQ z)
def zI(H:Hp)(ss:LN)(x:V):Option (Str×Str):=match x with
 | .ref a=>(match H a with
  | some (.tup [y,z])=>if qec ss y z=true then some (qQ y,qQ z) else none
  | _=>none)
 | _=>none
theorem qdT{z:V}(e:H a=some (.tup [y,z])):zI H ss (.ref a)=if qec ss y z=true then some (qQ y,qQ z) else none:=by
 unfold zI;dsimp only;rw[e]
theorem jM{x:V}(h:∀ a xs,x=.ref a->H a=some (.tup xs)->xs.length≠2):zI H ss x=none:=by
 unfold zI
 cases x with
 | ref a =>
  dsimp only;split
  .rename_i y z e;show absurd rfl (h a _ rfl e)
  .rfl
 | _=>rfl
theorem qcY{x:V}(h:Th p H n x)(k:∀ b o,b≠p->H b=some o->H' b=some o):zI H' ss x=zI H ss x:=by
 cases h with
 | flat f l=>cases x<;>first | rfl | cases f
 | lst e ne h l=>rw[jM (H:=H') (λa xs z y=>by(cases z;rw[k _ _ ne e] at y;cases y)),jM (H:=H) λa xs z y=>by(cases z;rw[e] at y;cases y)]
 | tup e ne h l=>unfold zI;dsimp only;rw[k _ _ ne e,e]
 | dct e ne=>rw[jM (H:=H') (λa xs z y=>by(cases z;rw[k _ _ ne e] at y;cases y)),jM (H:=H) λa xs z y=>by(cases z;rw[e] at y;cases y)]
theorem tieV_same{x:V}(h:Th p H n x)(s:L2.Same H H'):zI H' ss x=zI H ss x:=qcY h λb o _ e=>s b o e
theorem j4(h:qI ss v=true):qaA v=true/\qQ v∈ss:=by
 unfold qI at h;split at h
 .rename_i z;show⟨z,yj h⟩
 .cases h
def qgM:Sp:=λvs H Q _=>∃(p:Addr) (n:Nat) (d:Addr) (ss:LN) (v:V),vs=[.ref d,v]/\H d=some (.dK (qa1 ss 0))/\Th p H n v/\∀ H',L2.Same H H'->Q (.bl (zI H ss v).isSome) H'
theorem ok_two(F:Fun K "are_two_places" "are_two_places" jr f fd)(T:Txt K mg cc cw)(A:wqW 2 "is_place" wqy qdq):wqY 3 f fd wqy qgM:=by
 show F.ok Kq (λvs H Q E h=>?_) λ_ _ _ _ H vs Q E x h=>?_
 .obtain⟨p,n,d,ss,v,rfl,_⟩:=h;rfl
 .obtain⟨p,n,d,ss,v,rfl,D,hv,q⟩:=h;have g:=zT x;show⟨_,(qe (jf (PW.pt (qem (jQ (jg (qi (zb (K:=K) rfl) rfl T.b_isinstance yO (qa (pv 1) (qa (jz (v:=.ty "tuple") rfl T.b_tuple x4 rfl) qb))))) (qcx (qw (qdl (K:=K) rfl g) (qi (zo (K:=K) rfl) rfl T.b_len YH (qa (pv 1) qb)) qg (qJ _))))) (qf (qm qcv)) qu)
 (qe (qx (i:=2) Kq.nd rfl (yJ rfl) (qcy (qE A (hmR x) qN (qa (pv 0) (qa (qG (qH (K:=K) rfl g) (pv 1) qg (λ_ _=>rfl)) qb))) (qbX (qE A (hmR x) qN (qa (pv 0) (qa (qG (qH (K:=K) rfl g) (pv 1) qg (λ_ _=>rfl)) qb))))))
 (qf (qm (qcy (pv 2) (qbX (zx (qdl (K:=K) rfl g) (qG (qH (K:=K) rfl g) (pv 1) qg (λ_ _=>rfl)) (qG (qH (K:=K) rfl g) (pv 1) qg (λ_ _=>rfl)) (qJ _)))))))),?_⟩
  obtain⟨t,M,ty,_,_,h1,J,_⟩:=hv.ty (K:=K);apply qaV (.inl ty) rfl (qbc K t M "tuple" (by simp)) ?_;apply qU (λh=>?_) λh=>?_
  .ext;have z:=q H (Sr H);rw[jM (λa xs e y=>absurd y (J (by simpa using h) a xs e))] at z;show z
  .obtain⟨a,xs,rfl,b,_,u⟩:=h1 (by simpa using h);apply qf1 b ?_;apply .inl ⟨rfl,rfl,?_⟩;apply qU (λh=>?_) λh=>?_
   .ext;have z:=q H (Sr H)
    rw[jM (λU S e y=>by
     cases e;rw[b] at y;cases y;intro I;rw[I] at h;simp[eqV] at h)] at z
    show z
   .have hl:xs.length=2:=by
     simp only[xI,eqV,Xj,Bool.not_eq_false'] at h;have h':((xs.length:Int)==2)=true:=by simpa using h
     have:=eq_of_beq h';lk
    match xs,hl,b,u with
    | [y,z],_,b,u =>
     have N:=u y (by simp);have O:=u z (by simp);rw[qdT b] at q;apply .inl (qe8 b rfl ?_);apply⟨p,n,d,ss,y,rfl,D,N,λH1 c=>?_⟩;ext
     have l:∀ H2,L2.Same H H2->¬ (qI ss y=true/\qI ss z=true)->Q (.bl false) H2:=λH2 j L=>by
      have:=q H2 j;rw[yw (λe=>L (by unfold qec at e;simp only[yF] at e;show⟨e.1.1,e.1.2⟩))] at this;show this
     show qU (λr=>?_) λr=>?_
     .ext;show .inl (qe8 (c _ _ b) rfl ?_);apply⟨p,n,d,ss,z,rfl,c _ _ D,O.same c,λH2 j=>?_⟩;apply qU (λs=>?_) λs=>?_
      .ext;show .inl (qe8 (j _ _ (c _ _ b)) rfl ?_);apply .inl (qe8 (j _ _ (c _ _ b)) rfl ?_);obtain⟨R,_⟩:=j4 r;obtain⟨nz,_⟩:=j4 s;obtain⟨B,_,_⟩:=ji R;obtain⟨C,_,_⟩:=ji nz;have m:=q H2 (c.trans j);unfold qec at m;rw[r,s] at m;generalize qQ y=o at B m;generalize qQ z=sz at C m;subst B C;show .inl ⟨rfl,rfl,?_⟩
       have e:(if true=true then !eqV (V.str o) (V.str sz) else eqV (V.str o) (V.str sz))=(if (true&&true&&!decide (o=sz))=true then some (o,sz) else none).isSome:=by
        by_cases G:o=sz
        .subst G;simp[eqV]
        .simp [eqV,G]
       rw[e];show m
      .show l H2 (c.trans j) λe=>s e.2
     .ext;show yo ?_;show l H1 c λe=>r e.1
theorem Ko:FnScope ["names","numbers","name"] ["names"] (qd ze):=fS
theorem qeP(m j:Nat):decide (Builtin.bitAnd ((m:Int) / 2 ^ (j:Int).toNat) 1=1)=m.testBit j:=by
 rw[PyProof.Rows.bitAnd_m1,Nat.testBit_eq_decide_div_mod_eq];rw[Yz];have e:(m:Int) / 2 ^ j=((m / 2 ^ j:Nat):Int):=by rw[Int.natCast_ediv,Int.natCast_pow];rfl
 rw[e]
 congr 1
 apply propext;lk
theorem qfJ(m j:Nat):Builtin.bitOr (m:Int) (1*2 ^ (j:Int).toNat)=((m ||| 2 ^ j:Nat):Int):=by
 have e:(1*2 ^ (j:Int).toNat:Int)=((2 ^ j:Nat):Int):=by rw[Yz,Int.one_mul,Int.natCast_pow];rfl
 rw[e];generalize 2 ^ j=k;have c:Builtin.bitNot (m:Int)=-(m:Int)-1:=rfl;have d:Builtin.bitNot (k:Int)=-(k:Int)-1:=rfl;unfold Builtin.bitOr Builtin.bitAnd;rw[c,d,yk (by lk),yk (by lk)];dsimp only;unfold Builtin.bitNot;have a:(-(-(m:Int)-1)-1).toNat=m:=by lk
 have b:(-(-(k:Int)-1)-1).toNat=k:=by lk
 rw[a,b];lk
def But(x:Addr)(H H':Hp):Prop:=∀ b o,b≠x->H b=some o->H' b=some o
theorem But.refl(x:Addr)(H:Hp):But x H H:=λ_ _ _ e=>e
theorem But.same(a:But x H H1)(b:L2.Same H1 H2):But x H H2:=λc o n e=>b c o (a c o n e)
theorem But.put{o:HO}(a:But x H H1):But x H (upd H1 x o):=λc u n e=>by rw[qh n];show a c u n e
theorem But.new{o:HO}(a:But x H H1)(hl:H1 l=none):But x H (upd H1 l o):=a.same (qF (Sr H1) hl)
theorem qA{h:Str}(c:XAt K C)(q:∀ dx H',L2.Same H1 H'->H' dx=some (.xd [(h,y)])->E (.ref C) (some dx) H') :
  [y].length<=1000/\∀ x,H1 x=none->spX C h (.ref x::[y]) (upd H1 x (XN x C none)) (λv H2=>v=.non/\∃ a f dx,(V.ref x)=.ref a/\H2 a=some (XN a f dx)/\XAt K f/\E (.ref f) dx (upd H2 a (XO a f dx))) E0:=by
 show⟨by show 1<=1000;decide,λx i=>⟨x,y,rfl,qc,λdx d=>⟨rfl,x,C,some dx,rfl,qc,c,q dx _ (λb o e=>?_) ?_⟩⟩⟩
 .have nx:b≠x:=λz=>by rw[z,i] at e;cases e
  have g:b≠dx:=λz=>by rw[<- z,qh nx,e] at d;cases d
  rw[qh nx,qh nx,qh g,qh nx];show e
 .have g:dx≠x:=λz=>by rw[z,qc] at d;cases d
  rw[qh g,qh g,qc]
def qgN(g:TG)(t:TS)(D:Ends)(σ:L2.St)(J:It)(H1:Hp):Prop:=∃ W:Nat->Nat->L2.St->Hp->Prop,(∃ m,W 0 m σ H1)/\∀ i m σ H,W i m σ H ->
 (J.stop i H/\D.nx σ H)\/(J.go i H/\∃ N:L2.St->Hp->Prop,(∀ a H',N a H'->∃ c,c<m/\W (i+1) c a H')/\∀ x H',J.yld i H x H'->g x σ H' λb H2=>t { D with nx:=N,ct:=N,bk:=D.nx } b H2)
theorem qdr{tb:TS}(h:Arg p H v (some xs))(n:L2.Same H H1)(b:Nat->L2.St->Hp->Prop)(f:b 0 σ H1)(hl:∀ i σ H',b i σ H'->L2.Same H H')
  (m:∀ i x σ H,xs[i]?=some x->b i σ H->g x σ H λd H2=>tb { D with nx:=b (i+1),ct:=b (i+1),bk:=D.nx } d H2) (j:∀ σ H,b xs.length σ H->D.nx σ H) :
  (match v with
   | .str x=>qgN g tb D σ (Its x) H1
   | .ref a=>((∃ xs,SqL K H1 a xs)/\qgN g tb D σ (Itl K a) H1)\/((∃ xs,SqT K H1 a xs)/\qgN g tb D σ (Itt K a) H1)
   | _=>False):=by
 cases h with
 | lst e ne h l=>show .inl ⟨⟨_,SqL.of (n _ _ e)⟩,zw (K:=K) b f (λi σ H' _ c=>SqL.of (hl i σ H' c _ _ e)) m j⟩
 | tup e ne h l=>show .inr ⟨⟨_,SqT.of (n _ _ e)⟩,qen (K:=K) b f (λi σ H' _ c=>SqT.of (hl i σ H' c _ _ e)) m j⟩
theorem Arg.ty(h:Arg p H v o):∃ t,TyX K H v t/\W.kitAny K t [.type "list",.type "tuple"]=some o.isSome:=by
 cases h with
 | lst e ne h l=>show⟨_,.inl (.lst e),rfl⟩
 | tup e ne h l=>show⟨_,.inl (.tup e),rfl⟩
 | flat f l =>
  cases v with
  | non=>show⟨_,.inl .non,rfl⟩
  | bl x=>show⟨_,.inl (.bl x),rfl⟩
  | int x=>show⟨_,.inl (.int x),rfl⟩
  | str x=>show⟨_,.inl (.str x),rfl⟩
  | _=>cases f
 | dct e ne=>show⟨_,.inl (.dK e),rfl⟩
theorem Arg.len{Q:VK}(h:Arg p H v (some xs))(q:Q (.int xs.length) H):qcd K [v] H Q:=by
 cases h with
 | lst e ne h l=>show qbG e q
 | tup e ne h l=>show qf1 e q
theorem Arg.few(h:Arg p H v (some xs)):xs.length<=1000/\∀ x∈xs,Th p H 2 x:=by
 cases h with
 | lst e ne h l=>show⟨l,h⟩
 | tup e ne h l=>show⟨l,h⟩
theorem Arg.isi{Q:VK}(h:Arg p H v o)(a:H q=some (.tup [.ty "list",.ty "tuple"]))(k:Q (.bl o.isSome) H):qeG K [v,.ref q] H Q:=by
 obtain⟨t,ty,e⟩:=h.ty (K:=K);show⟨v,q,_,t,_,_,rfl,ty,a,rfl,e,k⟩
def qed:List V->LN->Option (Nat×V)
 | [],_=>none
 | x::r,ss=>if qaA x=true then(if qQ x∈ss then some (1,x) else qed r (ss++[qQ x])) else some (0,x)
theorem qcZ(x:V)(r:List V)(ss:LN):qed (x::r) ss=if qaA x=true then(if qQ x∈ss then some (1,x) else qed r (ss++[qQ x])) else some (0,x):=rfl
theorem qc0:∀{xs:List V} {ss:LN},qed xs ss=none->xs=(xs.map qQ).map V.str/\(∀ x∈xs,qaA x=true)/\(∀ s∈xs.map qQ,s∉ss)/\(xs.map qQ).Nodup
 | [],ss,_=>⟨rfl,by simp,by simp,by simp⟩
 | x::r,ss,h=>by
  unfold qed at h;split at h
  .rename_i hn
   split at h
   .cases h
   .rename_i hm
    obtain⟨b,c,a,d⟩:=qc0 h;obtain⟨e,_,_⟩:=ji hn;show⟨?_,?_,?_,?_⟩
    .rw [yP,yP,<- e,<- b]
    .intro y hy;rcases yt.mp hy with rfl | hy
     .show hn
     .show c y hy
    .intro s hs;rcases yt.mp hs with rfl | hs
     .show hm
     .show λz=>a s hs (YO _ z)
    .rw [yP,ym];show⟨λz=>a _ z (yE _ (by simp)),d⟩
  .cases h
def qgg(v:V):Option (List V)->Option (Nat×V)
 | none=>some (0,v)
 | some xs=>if 14<xs.length then some (4,.int xs.length) else qed xs []
def Rz(cc:Nat->Addr)(H:Hp)(E:XK)(r:Nat×V):Prop:=∀ dx H',L2.Same H H'->H' dx=some (.xd [(qam r.1,r.2)])->E (.ref (cc r.1)) (some dx) H'
theorem Rz.later{r:Nat×V}(h:Rz cc H E r)(s:L2.Same H H1):Rz cc H1 E r:=λdx H' t e=>h dx H' (s.trans t) e
def qfK(cc:Nat->Addr):Sp:=λvs H Q E=>∃(p:Addr) (v:V) (o:Option (List V)),vs=[v]/\Arg p H v o/\(∀ r,qgg v o=some r->Rz cc H E r)/\(qgg v o=none->∀ d H',L2.Same H H'->H d=none->H' d=some (.dK (qa1 ((o.getD []).map qQ) 0))->Q (.ref d) H')
theorem ok_nums(F:Fun K "numbers_of" "numbers_of" ze f fd)(T:Txt K mg cc cw)(X:wqW 1 "is_name" wqK qeO)
  (W:XMakeOk P w K mg base 2 (cc 0) "NoName" wqa (spX (cc 0) (qam 0))) (u8:XMakeOk P w K mg base 2 (cc 1) "Twice" wql (spX (cc 1) (qam 1))) (Y:XMakeOk P w K mg base 2 (cc 4) "TooMany" wqJ (spX (cc 4) (qam 4))) :
  FnOk P w K mg base (CX1 P w) 4 f fd ["names"] (qfK cc):=by
 show F.ok1 Ko (λvs H Q E h=>?_) λ_ _ _ _ H vs Q E l h=>?_
 .obtain⟨p,v,o,rfl,_⟩:=h;rfl
 .obtain⟨p,v,o,rfl,m,t,q⟩:=h;have R:=zT l;show⟨_,(qe (jf (jQ (jg (qi (qcf (K:=K) rfl) rfl T.b_isinstance yO (qa (pv 0) (qa (qV (qa (jz (v:=.ty "list") rfl T.b_list XA rfl) (qa (jz (v:=.ty "tuple") rfl T.b_tuple x4 rfl) qb))) qb))))) (qf (qO (K:=K) rfl qp (zY W (hmR l) (qa (pv 0) qb)))) qu)
 (qe (jf (qw qgt (qi (zo (K:=K) rfl) rfl T.b_len YH (qa (pv 0) qb)) (qaQ rfl T.g_MOST_PLACES) (qJ _)) (qf (qO (K:=K) rfl qp (zY Y (hmR l) (qa (qi (zo (K:=K) rfl) rfl T.b_len YH (qa (pv 0) qb)) qb)))) qu)
 (qe (qx (i:=1) Ko.nd rfl (yJ rfl) qcc)
 (qe (zW Xm rfl (jR (K:=K) rfl (pv 0)) (qr (i:=2) Ko.nd rfl (yJ rfl))
 (qe (jf (jQ (jg (qE X (hmR l) qN (qa (pv 2) qb)))) (qf (qO (K:=K) rfl qp (zY W (hmR l) (qa (pv 2) qb)))) qu)
 (qe (jf (qw (qdm (K:=K) rfl R) (pv 2) (pv 1) (by with_unfolding_all rfl)) (qf (qO (K:=K) rfl qp (zY u8 (hmR l) (qa (pv 2) qb)))) qu)
 (qf (qbi (qi (zo (K:=K) rfl) rfl T.b_len YH (qa (pv 1) qb)) (qdB (pv 1) (pv 2) (qdQ R)))))))
 (qf (qm (pv 1))))))),?_⟩
  apply⟨wq1,λg Z=>?_⟩;have e:=qF (Sr H) (o:=.tup [.ty "list",.ty "tuple"]) Z;apply(m.same e).isi qc ?_;ext
  cases o with
  | none =>
   show qU (λ_=>?_) (λh=>absurd rfl h);apply qA (T.xat 0 (by decide)) ((t (0,v) rfl).later e)
  | some xs =>
   show yo ?_;obtain⟨few,L⟩:=m.few;apply(m.same e).len ?_;apply qU (λh=>?_) λh=>?_
   .ext;show(m.same e).len ?_;ext;have h':14<xs.length:=by have:=yj h;lk
    show qA (T.xat 4 (by decide)) ((t (4,.int xs.length) (by show(if 14<xs.length then _ else _)=_;rw[yB h'])).later e)
   .have h':¬ 14<xs.length:=λz=>h (yL (by lk));have ho:qgg v (some xs)=qed xs []:=by show(if 14<xs.length then _ else _)=_;rw[yw h']
    rw[ho] at t q;ext;intro d O;have U:=qF e (o:=.dK []) O;have n:H d=none:=e.free O;apply qdr m U (λi σ H'=>∃ v2,σ=[some v,some (.ref d),v2]/\L2.Same H H'/\H' d=some (.dK (qa1 ((xs.take i).map qQ) 0))/\qed xs []=qed (xs.drop i) ((xs.take i).map qQ)) ⟨none,rfl,U,qc,rfl⟩ (λi σ H' r=>by obtain⟨_,_,z,_⟩:=r;show z) (λi x σ H' u r=>?_) fun σ H' r=>?_
    .obtain⟨v2,rfl,A,j,a⟩:=r;have G:i<xs.length:=(yc.mp u).1
     have D:xs.drop i=x::xs.drop (i+1):=by
      rw[xU G];have:=(yc.mp u).2;rw[this]
     have s:xs.take (i+1)=xs.take i++[x]:=by rw[yT,u];rfl
     rw[D,qcZ] at a;apply⟨p,2,x,rfl,(L x (ye u)).same A,λH1 B=>?_⟩;have N:=A.trans B;apply qU (λJ=>?_) λJ=>?_
     .ext;have c:¬ qaA x=true:=by simpa using J
      rw[yw c] at a;show qA (T.xat 0 (by decide)) ((t (0,x) a).later N)
     .have c:qaA x=true:=by simpa using J
      rw[yB c] at a;obtain⟨C,_,M⟩:=ji c;have aa:∀ y,y=qQ x->x=.str y:=λy S=>by rw[S];show C
      generalize S:qQ x=y at a M C;subst C;apply .inr (.inl ⟨d,_,rfl,DGet.k (k:=Sum.inr y) (B _ _ j),?_⟩);rw[qbL];apply qU (λI=>?_) λI=>?_
      .ext;have b:y∈(xs.take i).map qQ:=yj I;rw[yB b] at a;show qA (T.xat 1 (by decide)) ((t (1,.str y) a).later N)
      .have b:y∉(xs.take i).map qQ:=λz=>I (yL z);rw[yw b] at a;apply .inr ⟨_,B _ _ j,?_⟩;apply .inr ⟨d,_,rfl,DPut.k (k:=Sum.inr y) (B _ _ j) (qk (by rw[zH,ya,Yc];lk)),?_⟩;show⟨_,rfl,qe9 N n,?_,?_⟩
       .rw [qc,putK_new _ (qbK b),s,yD,yP,kJ,qcX,zH];simp only[xw];rfl
       .rw [a,s,yD];rfl
    .obtain⟨v2,rfl,A,j,a⟩:=r;rw[Xz] at a;ext;rw[Ye] at j;show q a d H' A n j
theorem uH:FnScope wqx wqx (qd qao):=fS
theorem Kd:FnScope ["numbers","ties","near","tie","one","other"] wqT (qd qa2):=fS
def goT(H:Hp)(ss:LN):List V->LS->Option V
 | [],_=>none
 | x::r,seen=>match zI H ss x with
  | none=>some x
  | some t=>if t∈seen\/(t.2,t.1)∈seen then some x else goT H ss r (seen++[t])
theorem qeQ{x:V}{r:List V}(h:zI H ss x=none):goT H ss (x::r) seen=some x:=by
 show(match zI H ss x with | none=>_ | some t=>_)=_;rw[h]
theorem qdU{x:V}{r:List V}{t:Str×Str}(h:zI H ss x=some t):goT H ss (x::r) seen=if t∈seen\/(t.2,t.1)∈seen then some x else goT H ss r (seen++[t]):=by
 show(match zI H ss x with | none=>_ | some t=>_)=_;rw[h]
def qfa(H:Hp)(ss:LN)(v:V):Option (List V)->Option (Nat×V)
 | none=>some (3,v)
 | some xs=>if 30<xs.length then some (4,.int xs.length) else(goT H ss xs []).map λy=>(3,y)
theorem tieV_some{x:V}{t:Str×Str}(h:zI H ss x=some t):∃ a,x=.ref a/\H a=some (.tup [.str t.1,.str t.2])/\jG t.1=true/\jG t.2=true/\t.1.length<=6/\t.2.length<=6/\t.1∈ss/\t.2∈ss/\t.1≠t.2:=by
 unfold zI at h;split at h
 .rename_i a
  split at h
  .rename_i y z e
   split at h
   .rename_i hp
    cases h;unfold qec at hp;simp only[yF] at hp;obtain⟨⟨h1,g⟩,i⟩:=hp;obtain⟨o,m⟩:=j4 h1;obtain⟨p,n⟩:=j4 g;obtain⟨b,d,j⟩:=ji o;obtain⟨c,f,l⟩:=ji p;show⟨a,rfl,?_,d,f,j,l,m,n,?_⟩
    .show H a=some (.tup [.str (qQ y),.str (qQ z)]);rw[<- b,<- c];show e
    .simpa using i
   .cases h
  .cases h
 .cases h
def qab(ss:LN)(ns:LQ)(seen:LS):Prop:=ns.length=ss.length/\(∀ a,ns.getD a 0<2 ^ ss.length)/\∀ a b s t,ss[a]?=some s->ss[b]?=some t->(ns.getD a 0).testBit b=decide ((s,t)∈seen\/(t,s)∈seen)
theorem qz(h:ss.Nodup){a b:Nat}(i:ss[a]?=some s)(hb:ss[b]?=some s):a=b:=by
 have e:=YK.mp h;obtain⟨f,c⟩:=yc.mp i;obtain⟨g,d⟩:=yc.mp hb;rcases Nat.lt_trichotomy a b with q | q | q
 .show absurd (c.trans d.symm) (e a b f g q)
 .show q
 .show absurd (d.trans c.symm) (e b a g f q)
theorem bits_zero:qab ss (List.replicate ss.length 0) []:=by
 have z:∀ a,(List.replicate ss.length 0).getD a 0=0:=λa=>by
  simp only[List.getD,Xa];split<;>rfl
 show⟨by simp,λa=>by rw[z a];show Nat.two_pow_pos _,λa b s t c hb=>?_⟩;rw[z a];simp
theorem qa3{v:Nat}(h:i<ns.length):(ns.set i v).getD j 0=if i=j then v else ns.getD j 0:=by
 simp only[List.getD,List.getElem?_set];by_cases e:i=j
 .subst e;simp[h]
 .simp [e]
theorem bits_step(hb:qab ss ns seen)(n:ss.Nodup){t:Str}(d:ss[i]?=some s)(g:ss[j]?=some t)(m:s≠t) :
  qab ss ((ns.set i (ns.getD i 0 ||| 2 ^ j)).set j (ns.getD j 0 ||| 2 ^ i)) (seen++[(s,t)]):=by
 obtain⟨hl,l,h⟩:=hb;have A:i<ns.length:=by rw[hl];show(yc.mp d).1
 have B:j<ns.length:=by rw[hl];show(yc.mp g).1
 have D:i≠j:=λe=>by rw[e,g] at d;cases d;show m rfl
 have x:i<ss.length:=(yc.mp d).1;have y:j<ss.length:=(yc.mp g).1;show⟨by simp[hl],λa=>?_,λa b u v f c=>?_⟩
 .rw [qa3 (by simpa using B),qa3 A];split
  .show Nat.or_lt_two_pow (l _) (Nat.pow_lt_pow_right (by decide) x)
  .split
   .show Nat.or_lt_two_pow (l _) (Nat.pow_lt_pow_right (by decide) y)
   .show l _
 rw[qa3 (by simpa using B),qa3 A];have o:=h a b u v f c;have C:∀ P Q:Prop,(P↔Q)->∀ [Decidable P] [Decidable Q],decide P=decide Q:=λP Q e=>by intro _ _;show xS.mpr e
 by_cases r:j=a
 .subst r;rw[g] at f;cases f;rw[yB rfl,Nat.testBit_or,o,Nat.testBit_two_pow];by_cases q:i=b
  .subst q;rw[d] at c;cases c;simp
  .have vs:v≠s:=λe=>by subst e;show q (qz n d c)
   simp only[q,kL,kG];apply xS.mpr;simp only[Yj,yA,XD];constructor
   .rintro (z | z)
    .show .inl (.inl z)
    .show .inr (.inl z)
   .rintro ((z | ⟨z,_⟩) | (z | ⟨z,_⟩))
    .show .inl z
    .show absurd z.symm m
    .show .inr z
    .show absurd z vs
 .rw [yw r];by_cases p:i=a
  .subst p;rw[d] at f;cases f;rw[yB rfl,Nat.testBit_or,o,Nat.testBit_two_pow];by_cases w:j=b
   .subst w;rw[g] at c;cases c;simp
   .have F:v≠t:=λe=>by subst e;show w (qz n g c)
    simp only[w,kL,kG];apply xS.mpr;simp only[Yj,yA,XD];constructor
    .rintro (z | z)
     .show .inl (.inl z)
     .show .inr (.inl z)
    .rintro ((z | ⟨_,z⟩) | (z | ⟨_,z⟩))
     .show .inl z
     .show absurd z F
     .show .inr z
     .show absurd z m
  .rw [yw p,o];have us:u≠s:=λe=>by subst e;show p (qz n d f)
   have E:u≠t:=λe=>by subst e;show r (qz n g f)
   apply xS.mpr;simp only[Yj,yA,XD];constructor
   .rintro (z | z)
    .show .inl (.inl z)
    .show .inr (.inl z)
   .rintro ((z | ⟨z,_⟩) | (z | ⟨_,z⟩))
    .show .inl z
    .show absurd z us
    .show .inr z
    .show absurd z E
def qdV(ns:LQ):List V:=ns.map λ(n:Nat)=>.int (n:Int)
theorem qbo(h:i<ns.length):(qdV ns)[i]?=some (.int (ns.getD i 0:Nat)):=by
 unfold qdV;rw[yd,yb h];simp[List.getD,h]
theorem qdW(ns:LQ)(i m:Nat):(qdV ns).set i (.int m)=qdV (ns.set i m):=by
 unfold qdV;rw[List.map_set]
theorem natV_zero(k:Nat):(List.replicate k [V.int 0]).flatten=qdV (List.replicate k 0):=by
 induction k with
 | zero=>rfl
 | succ k ih=>rw[YS,xJ,ih];rfl
theorem qds(h:j<n):ixN n (j:Int)=some j:=by
 unfold ixN;rw[yB (by lk),yB (by lk)];rfl
def qfL(cc:Nat->Addr):Sp:=λvs H Q E=>∃(p d:Addr) (ss:LN) (v:V) (o:Option (List V)),vs=[.ref d,v]/\H d=some (.dK (qa1 ss 0))/\ss.length<=14/\ss.Nodup/\Arg p H v o/\(∀ r,qfa H ss v o=some r->Rz cc H E r) /\
 (qfa H ss v o=none->∀ n ns H',L2.Same H H'->H n=none->H' n=some (.lst (qdV ns))->qab ss ns ((o.getD []).filterMap (zI H ss))->Q (.ref n) H')
theorem ok_near(F:Fun K "near_of" "near_of" qa2 f fd)(T:Txt K mg cc cw)(KR:wqW 3 "are_two_places" wqy qgM)(KH:wqW 1 "has_bit" wqM qf5)
  (ub:XMakeOk P w K mg base 2 (cc 3) "NoTie" wqa (spX (cc 3) (qam 3))) (KG:XMakeOk P w K mg base 2 (cc 4) "TooMany" wqJ (spX (cc 4) (qam 4))) :
  FnOk P w K mg base (CX1 P w) 4 f fd wqT (qfL cc):=by
 show F.ok1 Kd (λvs H Q E h=>?_) λ_ _ _ _ H vs Q E A h=>?_
 .obtain⟨p,d,ss,v,o,rfl,_⟩:=h;rfl
 .obtain⟨p,d,ss,v,o,rfl,W,aj,ae,J,O,q⟩:=h;have l:=zT A;show⟨_,(qe (jf (jQ (jg (qi (qcf (K:=K) rfl) rfl T.b_isinstance yO (qa (pv 1) (qa (qV (qa (jz (v:=.ty "list") rfl T.b_list XA rfl) (qa (jz (v:=.ty "tuple") rfl T.b_tuple x4 rfl) qb))) qb))))) (qf (qO (K:=K) rfl qp (zY ub (hmR A) (qa (pv 1) qb)))) qu)
 (qe (jf (qw qgt (qi (zo (K:=K) rfl) rfl T.b_len YH (qa (pv 1) qb)) (qaQ rfl T.g_MOST_TIES) (qJ _)) (qf (qO (K:=K) rfl qp (zY KG (hmR A) (qa (qi (zo (K:=K) rfl) rfl T.b_len YH (qa (pv 1) qb)) qb)))) qu)
 (qe (qx (i:=2) Kd.nd rfl (yJ rfl) (qD qfv (qy (qa qg qb)) (qi (zo (K:=K) rfl) rfl T.b_len YH (qa (pv 0) qb))))
 (qe (zW Xm rfl (jR (K:=K) rfl (pv 1)) (qr (i:=3) Kd.nd rfl (yJ rfl))
 (qe (jf (jQ (jg (qE KR (hmR A) qN (qa (pv 0) (qa (pv 3) qb))))) (qf (qO (K:=K) rfl qp (zY ub (hmR A) (qa (pv 3) qb)))) qu)
 (qe (qx (i:=4) Kd.nd rfl (yJ rfl) (qG (qH (K:=K) rfl l) (pv 0) (qG (qH (K:=K) rfl l) (pv 3) qg (λ_ _=>rfl)) (λ_ _=>rfl)))
 (qe (qx (i:=5) Kd.nd rfl (yJ rfl) (qG (qH (K:=K) rfl l) (pv 0) (qG (qH (K:=K) rfl l) (pv 3) qg (λ_ _=>rfl)) (λ_ _=>rfl)))
 (qe (jf (jg (qE KH (hmR A) qN (qa (qG (qH (K:=K) rfl l) (pv 2) (pv 4) (λ_ _=>rfl)) (qa (pv 5) qb)))) (qf (qO (K:=K) rfl qp (zY ub (hmR A) (qa (pv 3) qb)))) qu)
 (qe (qbi (qD qgr (qG (qH (K:=K) rfl l) (pv 2) (pv 4) (λ_ _=>rfl)) (qD qfs qg (pv 5))) (qdB (pv 2) (pv 4) (qdQ l)))
 (qf (qbi (qD qgr (qG (qH (K:=K) rfl l) (pv 2) (pv 5) (λ_ _=>rfl)) (qD qfs qg (pv 4))) (qdB (pv 2) (pv 5) (qdQ l))))))))))
 (qf (qm (pv 2))))))),?_⟩
  apply⟨wq1,λg hg=>?_⟩;have G:=qF (Sr H) (o:=.tup [.ty "list",.ty "tuple"]) hg;apply(J.same G).isi qc ?_;ext
  cases o with
  | none =>
   show qU (λ_=>?_) (λh=>absurd rfl h);apply qA (T.xat 3 (by decide)) ((O (3,v) rfl).later G)
  | some xs =>
   show yo ?_;obtain⟨few,af⟩:=J.few;apply(J.same G).len ?_;apply qU (λh=>?_) λh=>?_
   .ext;show(J.same G).len ?_;ext;have h':30<xs.length:=by have:=yj h;lk
    show qA (T.xat 4 (by decide)) ((O (4,.int xs.length) (by show(if 30<xs.length then _ else _)=_;rw[yB h'])).later G)
   .have h':¬ 30<xs.length:=λz=>h (yL (by lk));have ho:qfa H ss v (some xs)=(goT H ss xs []).map λy=>(3,y):=by show(if 30<xs.length then _ else _)=_;rw[yw h']
    rw[ho] at O q;apply⟨wq0,λz ah=>?_⟩;have s1:=qF G (o:=.lst [.int 0]) ah;apply .inr ⟨_,s1 _ _ W,?_⟩;ext;rw[zH];show⟨z,_,_,rfl,rfl,qc,by lk,by lk,by show 1*_<=sizeLine;rw[Yz];show Ym (qk (by lk)),λn hn=>?_⟩;rw[Yz,natV_zero];have s2:=qF s1 (o:=.lst (qdV (List.replicate ss.length 0))) hn;have n0:H n=none:=s1.free hn;apply qdr J s2 (λi σ H'=>∃ v3 v4 v5 ns,σ=[some (.ref d),some v,some (.ref n),v3,v4,v5]/\L2.Same H H'/\H' n=some (.lst (qdV ns))/\qab ss ns ((xs.take i).filterMap (zI H ss))/\goT H ss xs []=goT H ss (xs.drop i) ((xs.take i).filterMap (zI H ss)))
     ⟨none,none,none,_,rfl,s2,qc,bits_zero,rfl⟩ (λi σ H' M=>by obtain⟨_,_,_,_,_,z,_⟩:=M;show z) (λi x σ H' Y M=>?_) fun σ H' M=>?_
    .obtain⟨v3,v4,v5,ns,rfl,I,u,b,c⟩:=M;have ab:i<xs.length:=(yc.mp Y).1
     have aa:xs.drop i=x::xs.drop (i+1):=by
      rw[xU ab];have:=(yc.mp Y).2;rw[this]
     have ag:xs.take (i+1)=xs.take i++[x]:=by rw[yT,Y];rfl
     have N:=af x (ye Y);rw[aa] at c;apply⟨p,2,d,ss,x,rfl,I _ _ W,N.same I,λH1 t1=>?_⟩;rw[tieV_same N I];have C:=I.trans t1;have s:=t1 _ _ u;ext
     cases X:zI H ss x with
     | none =>
      show qU (λ_=>?_) (λh=>absurd rfl h);ext;rw[qeQ X] at c;show qA (T.xat 3 (by decide)) ((O (3,x) (by rw[c];rfl)).later C)
     | some st =>
      show yo ?_;obtain⟨a,rfl,Z,n1,n2,l1,l2,m1,m2,t⟩:=tieV_some X;rw[qdU X] at c;obtain⟨sx,sy⟩:=st;dsimp only at Z n1 n2 l1 l2 m1 m2 t c;obtain⟨D,ac,j,S⟩:=jO (i:=0) m1;obtain⟨B,ad,r,U⟩:=jO (i:=0) m2;rw[xw] at S U;have ai:D≠B:=λe=>by rw[e,r] at j;cases j;show t rfl
      have m:D<ns.length:=by rw[b.1];show ac
      have R:B<ns.length:=by rw[b.1];show ad
      apply .inl (qe8 (C _ _ Z) rfl ?_);show .inr ⟨d,.int D,rfl,?_,?_⟩
      .have:=DGet.k (k:=Sum.inr sx) (C _ _ W);rw[S] at this;show this
      apply .inl (qe8 (C _ _ Z) rfl ?_);show .inr ⟨d,.int B,rfl,?_,?_⟩
      .have:=DGet.k (k:=Sum.inr sy) (C _ _ W);rw[U] at this;show this
      apply .inl (qbF s (qW (qbo m)) ?_);apply⟨_,_,rfl,by lk,?_⟩;rw[qeP,b.2.2 D B sx sy j r];apply qU (λhm=>?_) λhm=>?_
      .ext;rw[yB (yj hm)] at c;show qA (T.xat 3 (by decide)) ((O (3,.ref a) (by rw[c];rfl)).later C)
      .rw [yw (λe=>hm (yL e))] at c;apply .inl (qbF s (qW (qbo m)) ?_);apply vI ⟨by lk,by lk,by decide⟩ ?_;ext;rw[qfJ];show .inl (qgD s (qds (by unfold qdV;rw[ya];show m)) ?_);rw[qdW];ext;have e2:(ns.set D (ns.getD D 0 ||| 2 ^ B)).getD B 0=ns.getD B 0:=by rw[qa3 m,yw ai]
       show .inl (qbF qc (qW (qbo (by simpa using R))) ?_);apply vI ⟨by lk,by lk,by decide⟩ ?_;ext;rw[qfJ,e2];show .inl (qgD qc (qds (by unfold qdV;rw[ya];simpa using R)) ?_);rw[qdW]
       have L:(xs.take (i+1)).filterMap (zI H ss)=(xs.take i).filterMap (zI H ss)++[(sx,sy)]:=by
        rw[ag,Xr];simp[X]
       show⟨_,_,_,_,rfl,qe9 (qe9 C n0) n0,qc,?_,?_⟩
       .rw [L];show bits_step b ae j r t
       .rw [L];show c
    .obtain⟨v3,v4,v5,ns,rfl,I,u,b,c⟩:=M;rw[Xz] at c;ext;rw[Ye] at b;show q (by rw[c];rfl) n _ H' I n0 u b
def qf6(H:Hp)(v:V)(o:Option (List V))(v2:V)(a:Option (List V)):Option (Nat×V):=match qgg v o with
 | some r=>some r
 | none=>qfa H ((o.getD []).map qQ) v2 a
theorem outN_good(h:qgg v o=none):∃ xs,o=some xs/\xs.length<=14/\xs=(xs.map qQ).map V.str/\(∀ x∈xs,qaA x=true)/\(xs.map qQ).Nodup:=by
 cases o with
 | none=>cases h
 | some xs =>
  have h':(if 14<xs.length then some ((4:Nat),V.int xs.length) else qed xs [])=none:=h;split at h'
  .cases h'
  .obtain⟨a,b,c,d⟩:=qc0 h';show⟨xs,rfl,by lk,a,b,d⟩
theorem qdX(k:∀ b o,b≠p->H b=some o->H' b=some o):∀(xs:List V) (seen:LS),(∀ x∈xs,Th p H 2 x)->goT H' ss xs seen=goT H ss xs seen
 | [],_,_=>rfl
 | y::r,seen,h=>by
  have e:=qcY (ss:=ss) (h y yC) k;have c:=λz d=>h z (yz y d)
  cases a:zI H ss y with
  | none=>rw[qeQ (e.trans a),qeQ a]
  | some t=>rw[qdU (e.trans a),qdU a,qdX k r _ c]
theorem qc1(h:Arg p H v o)(k:∀ b o,b≠p->H b=some o->H' b=some o):qfa H' ss v o=qfa H ss v o:=by
 cases o with
 | none=>rfl
 | some xs =>
  show(if _ then _ else(goT H' ss xs []).map _)=if _ then _ else(goT H ss xs []).map _;rw[qdX k xs [] h.few.2]
structure WOk(ss:LN)(ns:LQ):Prop where
 len:ns.length=ss.length
 few:ss.length<=14
 nd:ss.Nodup
 lt:∀ a,ns.getD a 0<2 ^ ss.length
 nm:∀ s∈ss,jG s=true
def WebAt(cw:Addr)(H:Hp)(x:Addr)(ss:LN)(ns:LQ):Prop:=∃ dx d ol n,H x=some (.ins cw dx (qZ "near" (.ref n) (qZ "order" (.ref ol) (qZ "numbers" (.ref d) []))))/\H d=some (.dK (qa1 ss 0))/\H ol=some (.lst (ss.map V.str))/\H n=some (.lst (qdV ns))/\WOk ss ns
theorem WebAt.same(h:WebAt cw H x ss ns)(s:L2.Same H H'):WebAt cw H' x ss ns:=by
 obtain⟨dx,d,ol,n,h1,a,b,c,e⟩:=h;show⟨dx,d,ol,n,s _ _ h1,s _ _ a,s _ _ b,s _ _ c,e⟩
def WebN(H0:Hp)(cw:Addr)(H:Hp)(x:Addr)(ss:LN)(ns:LQ):Prop:=∃ dx d ol n,H x=some (.ins cw dx (qZ "near" (.ref n) (qZ "order" (.ref ol) (qZ "numbers" (.ref d) []))))/\H d=some (.dK (qa1 ss 0))/\H ol=some (.lst (ss.map V.str))/\H n=some (.lst (qdV ns))/\WOk ss ns/\H0 d=none/\H0 ol=none/\H0 n=none
theorem WebN.web(h:WebN H0 cw H x ss ns):WebAt cw H x ss ns:=by
 obtain⟨dx,d,ol,n,h1,a,b,c,e,_⟩:=h;show⟨dx,d,ol,n,h1,a,b,c,e⟩
def WebP(A:Addr->Prop)(cw:Addr)(H:Hp)(x:Addr)(ss:LN)(ns:LQ):Prop:=∃ dx d ol n,H x=some (.ins cw dx (qZ "near" (.ref n) (qZ "order" (.ref ol) (qZ "numbers" (.ref d) []))))/\H d=some (.dK (qa1 ss 0))/\H ol=some (.lst (ss.map V.str))/\H n=some (.lst (qdV ns))/\WOk ss ns/\¬ A x/\¬ A d/\¬ A ol/\¬ A n
theorem qc2:∀(ss:LN) (i:Nat),(qa1 ss i).map (λa=>kV a.1)=ss.map V.str
 | [],_=>rfl
 | s::r,i=>congrArg (V.str s::·) (qc2 r (i+1))
def qee(cc:Nat->Addr)(cw:Addr):Sp:=λvs H Q E=>∃(p x dx:Addr) (v:V) (o:Option (List V)) (v2:V) (a:Option (List V)),vs=[.ref x,v,v2]/\H x=some (.ins cw dx [])/\Arg p H v o/\Arg p H v2 a /\
 (∀ r,qf6 H v o v2 a=some r->∀ b H',But x H H'->H' b=some (.xd [(qam r.1,r.2)])->E (.ref (cc r.1)) (some b) H')/\(qf6 H v o v2 a=none->∀ ns H',But x H H'->WebN H cw H' x ((o.getD []).map qQ) ns->qab ((o.getD []).map qQ) ns ((a.getD []).filterMap (zI H ((o.getD []).map qQ)))->Q .non H')
theorem Arg.but{fs:List (Str×V)}(h:Arg p H v o)(d:H x=some (.ins C dx fs))(b:But x H H'):Arg p H' v o/\∀ ss,qfa H' ss v o=qfa H ss v o:=by
 have g:∀{n:Nat} {v:V},Th p H n v->Th p (λa=>if a=x then none else H a) n v:=by
  intro n v h
  induction h with
  | flat f l=>show .flat f l
  | lst e ne h l ih=>show .lst (by rw[yw (jx e d (by intro z;cases z))];show e) ne ih l
  | tup e ne h l ih=>show .tup (by rw[yw (jx e d (by intro z;cases z))];show e) ne ih l
  | dct e ne=>show .dct (by rw[yw (jx e d (by intro z;cases z))];show e) ne
 have i:Arg p (λa=>if a=x then none else H a) v o:=by
  cases h with
  | lst e ne h l=>show .lst (by rw[yw (jx e d (by intro z;cases z))];show e) ne (λx d=>g (h x d)) l
  | tup e ne h l=>show .tup (by rw[yw (jx e d (by intro z;cases z))];show e) ne (λx d=>g (h x d)) l
  | flat f l=>show .flat f l
  | dct e ne=>show .dct (by rw[yw (jx e d (by intro z;cases z))];show e) ne
 have j:L2.Same (λa=>if a=x then none else H a) H':=λc u e=>by
  have e:(if c=x then none else H c)=some u:=e;by_cases hc:c=x
  .rw [yB hc] at e;cases e
  .rw [yw hc] at e;show b c u hc e
 have m:L2.Same (λa=>if a=x then none else H a) H:=λc u e=>by
  have e:(if c=x then none else H c)=some u:=e;by_cases hc:c=x
  .rw [yB hc] at e;cases e
  .rw [yw hc] at e;show e
 show⟨i.same j,λss=>(qc1 i λb o _ e=>j b o e).trans (qc1 i λb o _ e=>m b o e).symm⟩
theorem qdY{f g:α->Option β}:∀{l:List α},(∀ x∈l,f x=g x)->l.filterMap f=l.filterMap g
 | [],_=>rfl
 | a::r,h=>by
  rw[Yv,Yv,h a yC,qdY λx b=>h x (yz _ b)]
theorem Arg.tie_but{fs:List (Str×V)}(h:Arg p H v o)(d:H x=some (.ins C dx fs))(b:But x H H')(y:V)(i:y∈o.getD [])(ss:LN):zI H' ss y=zI H ss y:=by
 cases o with
 | none=>cases i
 | some xs =>
  have c:=h.few.2 y i
  cases c with
  | flat f l=>cases y<;>first | rfl | cases f
  | lst e ne h l=>rw[jM (H:=H') (λa g z y=>by(cases z;rw[b _ _ (jx e d (by intro z;cases z)) e] at y;cases y)),jM (H:=H) λa g z y=>by(cases z;rw[e] at y;cases y)]
  | tup e ne h l=>unfold zI;dsimp only;rw[b _ _ (jx e d (by intro z;cases z)) e,e]
  | dct e ne=>rw[jM (H:=H') (λa g z y=>by(cases z;rw[b _ _ (jx e d (by intro z;cases z)) e] at y;cases y)),jM (H:=H) λa g z y=>by(cases z;rw[e] at y;cases y)]
theorem ok_web(F:Fun K "__init__" "Web.__init__" qao f fd)(T:Txt K mg cc cw)(uv:DefOk P w K mg base (CX1 P w) 4 "numbers_of" ["names"] (qfK cc))(uT:DefOk P w K mg base (CX1 P w) 4 "near_of" wqT (qfL cc)) :
  FnOk P w K mg base (CX1 P w) 5 f fd wqx (qee cc cw):=by
 show F.ok1 uH (λvs H Q E h=>?_) λ_ _ _ s H vs Q E Y h=>?_
 .obtain⟨p,x,dx,v,o,v2,l,rfl,_⟩:=h;rfl
 .obtain⟨p,x,dx,v,o,v2,l,rfl,Z,ha,u,hz,q⟩:=h;have hu:=zT Y;show⟨_,(qe (ju (K:=K) rfl (pv 0) (zD uv (hmR Y) qp (qa (pv 1) qb)) rfl)
 (qe (ju (K:=K) rfl (pv 0) (zr (qdn (K:=K) rfl rfl) rfl T.b_list XA (qa (qK (K:=K) rfl (pv 0) rfl) qb)) rfl)
 (qf (ju (K:=K) rfl (pv 0) (zD uT (hmR Y) qp (qa (qK (K:=K) rfl (pv 0) rfl) (qa (pv 2) qb))) rfl)))),?_⟩
  apply⟨p,v,o,rfl,ha,λr e=>?_,λhN d H1 s1 U hd=>?_⟩
  .intro O H' s' i;show hz r (by unfold qf6;rw[e]) O H' ((But.refl x H).same s') i
  .have hW:qf6 H v o v2 l=qfa H ((o.getD []).map qQ) v2 l:=by unfold qf6;rw[hN]
   obtain⟨xs,rfl,J,_,m,nd⟩:=outN_good hN;rw[hW] at hz q;have b1:=(But.refl x H).same s1;have I:=s1 _ _ Z;have j:d≠x:=jx hd I (by intro z;cases z);apply .inl ⟨x,cw,dx,[],rfl,I,T.wcl,T.wn,by decide,?_⟩;have b2:=b1.put (o:=.ins cw dx (qZ "numbers" (.ref d) []));have c:upd H1 x (.ins cw dx (qZ "numbers" (.ref d) [])) d=some (.dK (qa1 (((some xs).getD []).map qQ) 0)):=by rw[qh j];show hd
   apply .inl ⟨x,cw,dx,_,.ref d,rfl,qc,T.wcl,T.wn,by rw[qo,yB rfl],?_⟩;apply .inr (.inl ⟨d,_,rfl,c,λol g=>?_⟩);have N:ol≠x:=λe=>by subst e;rw[qc] at g;cases g
   have b3:=b2.new (o:=.lst ((qa1 (((some xs).getD []).map qQ) 0).map λb=>kV b.1)) g;have ab:ol≠d:=λe=>by rw[e,c] at g;cases g
   apply .inl ⟨x,cw,dx,_,rfl,(by rw[qh N.symm];show qc),T.wcl,T.wo,YG (jI _ _ _) (by decide),?_⟩
   have A:upd (upd (upd H1 x (.ins cw dx (qZ "numbers" (.ref d) []))) ol (.lst ((qa1 (((some xs).getD []).map qQ) 0).map λb=>kV b.1))) x (.ins cw dx (qZ "order" (.ref ol) (qZ "numbers" (.ref d) []))) d=some (.dK (qa1 (((some xs).getD []).map qQ) 0)):=by
    rw[qh j,qh (qq c g)];show c
   have t:=b3.put (o:=.ins cw dx (qZ "order" (.ref ol) (qZ "numbers" (.ref d) [])));apply .inl ⟨x,cw,dx,_,.ref d,rfl,qc,T.wcl,T.wn,by rw[qo,yw (by room),qo,yB rfl],?_⟩;ext;obtain⟨S,D⟩:=u.but Z t;show⟨p,d,_,v2,l,rfl,A,by rw[ya];show J,nd,S,λr e=>?_,λe n ns H2 M B hn a=>?_⟩
   .intro O H' s' i;rw[D] at e;show hz r e O H' (t.same s') i
   .rw [D] at e;have b5:=t.same M;apply .inl ⟨x,cw,dx,_,rfl,M _ _ qc,T.wcl,T.wr,YG (jI _ _ _) (YG (Nat.succ_le_succ (jI _ _ _)) (by decide)),?_⟩;have aa:=M _ _ (qc:upd (upd (upd H1 x (.ins cw dx (qZ "numbers" (.ref d) []))) ol (.lst ((qa1 (((some xs).getD []).map qQ) 0).map λb=>kV b.1))) x (.ins cw dx (qZ "order" (.ref ol) (qZ "numbers" (.ref d) []))) x=_);have L:n≠x:=jx hn aa (by intro z;cases z);have W:=M _ _ A;have X:H2 ol=some (.lst ((qa1 (((some xs).getD []).map qQ) 0).map λb=>kV b.1)):=M _ _ (by rw[qh N];show qc);have eT:(((some xs).getD []).map qQ)=(((some xs).getD []).map qQ):=rfl;have R:∀ y∈(l.getD []),zI H (((some xs).getD []).map qQ) y=zI (upd (upd (upd H1 x (.ins cw dx (qZ "numbers" (.ref d) []))) ol (.lst ((qa1 (((some xs).getD []).map qQ) 0).map λb=>kV b.1))) x (.ins cw dx (qZ "order" (.ref ol) (qZ "numbers" (.ref d) [])))) (((some xs).getD []).map qQ) y:=λy i=>?tie
    have G:H ol=none:=by
     cases q':H ol with
     | none=>rfl
     | some o'=>rw[b2 ol o' N q'] at g;cases g
    have C:H n=none:=by
     cases q':H n with
     | none=>rfl
     | some o'=>rw[t n o' L q'] at B;cases B
    show q e ns _ b5.put ⟨dx,d,ol,n,qc,by rw[qh j];show W,by rw[qh N,X,qc2],by rw[qh L];show hn,⟨a.1,by show(xs.map qQ).length<=14;rw[ya];show J,nd,a.2.1,λs hs=>by obtain⟨y,i,rfl⟩:=yK.mp hs;show(ji (m y i)).2.1⟩,U,G,C⟩ ?_
    .have:(l.getD []).filterMap (zI H (((some xs).getD []).map qQ))=(l.getD []).filterMap (zI (upd (upd (upd H1 x (.ins cw dx (qZ "numbers" (.ref d) []))) ol (.lst ((qa1 (((some xs).getD []).map qQ) 0).map λb=>kV b.1))) x (.ins cw dx (qZ "order" (.ref ol) (qZ "numbers" (.ref d) [])))) (((some xs).getD []).map qQ)):=qdY R;rw[this];show a
    case tie=>show(u.tie_but Z t y i _).symm
theorem uk:FnScope wh wh (qd zf):=fS
theorem KS:FnScope wqq wqq (qd jC):=fS
theorem KU:FnScope wqm wqm (qd jD):=fS
theorem ul:FnScope wqm wqm (qd zg):=fS
theorem KI:FnScope wqm wqm (qd jd):=fS
theorem K2:FnScope wqP wqP (qd jj):=fS
theorem jZ{n:V}:(qZ "near" n (qZ "order" ol (qZ "numbers" d []))).lookup ("numbers":Str)=some d:=by
 rw[qo,yw (by room),qo,yw (by room),qo,yB rfl]
theorem qa4{n:V}:(qZ "near" n (qZ "order" ol (qZ "numbers" d []))).lookup ("order":Str)=some ol:=by
 rw[qo,yw (by room),qo,yB rfl]
theorem lk_near{n:V}:(qZ "near" n (qZ "order" ol (qZ "numbers" d []))).lookup ("near":Str)=some n:=by
 rw[qo,yB rfl]
theorem qau{f:Str}{n:V}(h:(f=="near"||f=="order"||f=="numbers")=false):(qZ "near" n (qZ "order" ol (qZ "numbers" d []))).lookup f=none:=by
 simp only[Bool.or_eq_false_iff,yZ] at h;rw[qo,yw h.1.1,qo,yw h.1.2,qo,yw h.2];rfl
theorem place_ix(h:qI ss v=true):v=.str (qQ v)/\∃ j,j<ss.length/\ss[j]?=some (qQ v)/\qaI (qa1 ss 0) (.inr (qQ v):Key)=some (.int (j:Nat)):=by
 obtain⟨f,e⟩:=j4 h;obtain⟨b,_,_⟩:=ji f;obtain⟨j,d,c,a⟩:=jO (i:=0) e;rw[xw] at a;show⟨b,j,d,c,a⟩
def inB:LN->Nat->Nat->LN
 | [],_,_=>[]
 | s::r,i,b=>if b.testBit i=true then s::inB r (i+1) b else inB r (i+1) b
theorem qbp(y:Str)(b:Nat):∀(l:LN) (k:Nat),inB (l++[y]) k b=inB l k b++(if b.testBit (k+l.length)=true then [y] else [])
 | [],k=>by simp[inB]
 | s::r,k=>by
  have a:=qbp y b r (k+1);have e:k+1+r.length=k+(s::r).length:=by simp;lk
  rw[e] at a;simp only[Xx,inB,a];split<;>simp
theorem qbM(b:Nat):∀(l:LN) (k:Nat),(inB l k b).length<=l.length
 | [],_=>yg _
 | s::r,k=>by
  have a:=qbM b r (k+1);simp only[inB];split
  .simp;lk
  .simp;lk
def qeR(cw:Addr):Sp:=λvs H Q _=>∃(p:Addr) (k:Nat) (x:Addr) (ss:LN) (ns:LQ) (v:V),vs=[.ref x,v]/\WebAt cw H x ss ns/\Th p H k v/\∀ H',L2.Same H H'->Q (.bl (qI ss v)) H'
def qf7(cc:Nat->Addr)(cw:Addr):Sp:=λvs H Q E=>∃(p:Addr) (k:Nat) (x:Addr) (ss:LN) (ns:LQ) (v:V),vs=[.ref x,v]/\WebAt cw H x ss ns/\Th p H k v/\(qI ss v=false->Rz cc H E (2,v)) /\
 ∀ j,ss[j]?=some (qQ v)->qI ss v=true->∀ H',L2.Same H H'->Q (.int (j:Nat)) H'
def qhH(cc:Nat->Addr)(cw:Addr):Sp:=λvs H Q E=>∃(p:Addr) (k:Nat) (x:Addr) (ss:LN) (ns:LQ) (v:V),vs=[.ref x,v]/\WebAt cw H x ss ns/\Th p H k v/\(qI ss v=false->Rz cc H E (2,v)) /\
 ∀ j,ss[j]?=some (qQ v)->qI ss v=true->∀ H',L2.Same H H'->Q (.int (ns.getD j 0:Nat)) H'
def qgO(cw:Addr):Sp:=λvs H Q _=>∃(x:Addr) (ss:LN) (ns:LQ) (b:Nat),vs=[.ref x,.int b]/\WebAt cw H x ss ns/\∀ l,H l=none->Q (.ref l) (upd H l (.lst ((inB ss 0 b).map V.str)))
def qhk(cc:Nat->Addr)(cw:Addr):Sp:=λvs H Q E=>∃(p:Addr) (k:Nat) (x:Addr) (ss:LN) (ns:LQ) (v:V),vs=[.ref x,v]/\WebAt cw H x ss ns/\Th p H k v/\(qI ss v=false->Rz cc H E (2,v)) /\
 ∀ j,ss[j]?=some (qQ v)->qI ss v=true->∀ H',L2.Same H H'->∀ l,H' l=none->Q (.ref l) (upd H' l (.lst ((inB ss 0 (ns.getD j 0)).map V.str)))
def qgP(cw:Addr):Sp:=λvs H Q _=>∃(x:Addr) (ss:LN) (ns:LQ),vs=[.ref x]/\WebAt cw H x ss ns/\∀ l,H l=none->Q (.ref l) (upd H l (.lst (ss.map V.str)))
theorem ok_has(F:Fun K "has_place" "Web.has_place" jC f fd)(T:Txt K mg cc cw)(a:wqW 2 "is_place" wqy qdq):wqY 3 f fd wqq (qeR cw):=by
 show F.ok KS (λvs H Q E h=>?_) λ_ _ _ _ H vs Q E c h=>?_
 .obtain⟨p,k,x,ss,ns,v,rfl,_⟩:=h;rfl
 .obtain⟨p,k,x,ss,ns,v,rfl,⟨dx,d,ol,n,e,b,i,g,hw⟩,hv,q⟩:=h;show⟨_,(qf (qm (qE a (hmR c) qN (qa (qK (K:=K) rfl (pv 0) rfl) (qa (pv 1) qb))))),?_⟩;apply .inl ⟨x,cw,dx,_,.ref d,rfl,e,T.wcl,T.wn,jZ,?_⟩;apply⟨p,k,d,ss,v,rfl,b,hv,q⟩
theorem ok_num(F:Fun K "number_of" "Web.number_of" jD f fd)(T:Txt K mg cc cw)(s:wqX 3 cw "has_place" wqq (qeR cw))
  (t:XMakeOk P w K mg base 2 (cc 2) "NoPlace" wqa (spX (cc 2) (qam 2))):FnOk P w K mg base (CX1 P w) 4 f fd wqm (qf7 cc cw):=by
 show F.ok1 KU (λvs H Q E h=>?_) λ_ _ _ _ H vs Q E b h=>?_
 .obtain⟨p,k,x,ss,ns,v,rfl,_⟩:=h;rfl
 .obtain⟨p,k,x,ss,ns,v,rfl,c,hv,r,q⟩:=h;have o:=zT b;obtain⟨dx,d,ol,n,g,m,A,z,hw⟩:=id c;show⟨_,(qe (jf (jQ (jg (jo s (hmR b) (pv 0) (qa (pv 1) qb)))) (qf (qO (K:=K) rfl qp (zY t (hmR b) (qa (pv 1) qb)))) qu)
 (qf (qm (qG (qH (K:=K) rfl o) (qK (K:=K) rfl (pv 0) rfl) (pv 1) (λ_ _=>rfl))))),?_⟩
  apply⟨x,dx,_,rfl,g,qau (by room),?_⟩;apply⟨p,k,x,ss,ns,v,rfl,c,hv,λH1 a=>?_⟩;apply qU (λh=>?_) λh=>?_
  .ext;show qA (T.xat 2 (by decide)) ((r (by simpa using h)).later a)
  .have e:qI ss v=true:=by simpa using h
   obtain⟨i,j,y,l,u⟩:=place_ix e;apply .inl ⟨x,cw,dx,_,.ref d,rfl,a _ _ g,T.wcl,T.wn,jZ,?_⟩;apply .inr ⟨d,.int j,rfl,?_,q j l e H1 a⟩;have:=DGet.k (k:=Sum.inr (qQ v)) (a _ _ m);rw[u] at this;rw[i];show this
theorem ok_bb(F:Fun K "bits_beside" "Web.bits_beside" jd f fd)(T:Txt K mg cc cw)(i:MethOk P w K mg base (CX1 P w) 4 cw "number_of" wqm (qf7 cc cw)):FnOk P w K mg base (CX1 P w) 5 f fd wqm (qhH cc cw):=by
 show F.ok1 KI (λvs H Q E h=>?_) λ_ _ _ _ H vs Q E c h=>?_
 .obtain⟨p,k,x,ss,ns,v,rfl,_⟩:=h;rfl
 .obtain⟨p,k,x,ss,ns,v,rfl,b,hv,r,q⟩:=h;have o:=zT c;obtain⟨dx,d,ol,n,e,s,t,l,hw⟩:=id b;show⟨_,(qf (qm (qG (qH (K:=K) rfl o) (qK (K:=K) rfl (pv 0) rfl) (zE i (hmR c) qp (pv 0) (qa (pv 1) qb)) (λ_ _=>rfl)))),?_⟩;apply .inl ⟨x,cw,dx,_,.ref n,rfl,e,T.wcl,T.wr,lk_near,?_⟩;apply⟨x,dx,_,rfl,e,qau (by room),?_⟩;apply⟨p,k,x,ss,ns,v,rfl,b,hv,r,λj a m H1 g=>?_⟩;show .inl (qbF (g _ _ l) (qW (qbo (by rw[hw.len];show(yc.mp a).1))) (q j a m H1 g))
theorem ok_nin(F:Fun K "names_in" "Web.names_in" jj f fd)(T:Txt K mg cc cw)(z:wqW 1 "has_bit" wqM qf5):wqY 2 f fd wqP (qgO cw):=by
 show F.ok K2 (λvs H Q E h=>?_) λ_ _ _ _ H vs Q E t h=>?_
 .obtain⟨x,ss,ns,b,rfl,_⟩:=h;rfl
 .obtain⟨x,ss,ns,b,rfl,⟨dx,d,ol,n,u,C,s,J,hw⟩,q⟩:=h;have G:=zT t;show⟨_,(qf (qm (zC (sc:=qd jj) (XN:=wqP) ["name","bits","self"] 1 [1,0] rfl rfl rfl (by room) rfl (by room)
  (jR (K:=K) rfl (qK (K:=K) rfl (pv 0) rfl)) (λ_ _ _ _=>(qr (i:=0) (show(["name","bits","self"]:LN).Nodup by room) rfl (yJ rfl))) zn
  (λ_ _ _ _=>(qaO (jg (qE z (hmR t) qN (qa (pv 1) (qa (qG (qH (K:=K) rfl G) (qK (K:=K) rfl (pv 2) rfl) (pv 0) (λ_ _=>rfl)) qb))))))
  (λ_ _ _ _=>(pv 0))))),?_⟩
  apply .inl ⟨x,cw,dx,_,.ref ol,rfl,u,T.wcl,T.wo,qa4,?_⟩;show .inl ⟨⟨_,SqL.of s⟩,zt (K:=K) (λi ys H'=>H'=H/\ys=(inB (ss.take i) 0 b).map V.str) ⟨rfl,by simp[inB]⟩ (λi ys H' _ e=>by rw[e.1];show SqL.of s) (λi y ys H' p e=>?_) λys H' e=>?_⟩
  .obtain⟨rfl,rfl⟩:=e;have D:i<ss.length:=by simpa using(yc.mp p).1
   have c:ss[i]?=some ss[i]:=yb D;generalize ss[i]=r at c;have A:y=.str r:=by rw[yd,c] at p;cases p;rfl
   subst A;obtain⟨j,I,B,v⟩:=jO (i:=0) (ye c);rw[xw] at v;have o:j=i:=qz hw.nd B c;subst o;have g:ss.take (j+1)=ss.take j++[r]:=by rw[yT,c];rfl
   have a:(ss.take j).length=j:=by rw[Yc];lk
   apply .inl ⟨x,cw,dx,_,.ref d,rfl,u,T.wcl,T.wn,jZ,?_⟩;apply .inr ⟨d,.int j,rfl,?_,?_⟩
   .have:=DGet.k (k:=Sum.inr r) C;rw[v] at this;show this
   apply⟨_,_,rfl,by lk,?_⟩;rw[qeP];ext
   have few:((inB (ss.take j) 0 b).map V.str).length<sizeLine:=by
    rw[ya];show qk (yh (qbM _ _ _) (by rw[a];have:=hw.few;lk))
   show qU (λhb=>?_) λhb=>?_
   .ext;show⟨few,rfl,?_⟩;rw[g,qbp,a,xw,yB hb];simp
   .show⟨rfl,?_⟩;rw[g,qbp,a,xw,yw hb];simp
  .obtain⟨rfl,rfl⟩:=e;have m:ss.take (ss.map V.str).length=ss:=by rw[ya,Ye]
   rw[m];show⟨?_,λl hl=>q l hl⟩;rw[ya];show Ym (qk (yh (qbM _ _ _) (by have:=hw.few;lk)))
theorem ok_bs(F:Fun K "beside" "Web.beside" zg f fd)(T:Txt K mg cc cw)(g:MethOk P w K mg base (CX1 P w) 5 cw "bits_beside" wqm (qhH cc cw))(o:wqX 2 cw "names_in" wqP (qgO cw)):FnOk P w K mg base (CX1 P w) 6 f fd wqm (qhk cc cw):=by
 show F.ok1 ul (λvs H Q E h=>?_) λ_ _ _ _ H vs Q E b h=>?_
 .obtain⟨p,k,x,ss,ns,v,rfl,_⟩:=h;rfl
 .obtain⟨p,k,x,ss,ns,v,rfl,a,hv,m,q⟩:=h;obtain⟨dx,d,ol,n,c,r,t,s,hw⟩:=id a;show⟨_,(qf (qm (jo o (hmR b) (pv 0) (qa (zE g (hmR b) qp (pv 0) (qa (pv 1) qb)) qb)))),?_⟩;apply⟨x,dx,_,rfl,c,qau (by room),?_⟩;apply⟨x,dx,_,rfl,c,qau (by room),?_⟩;apply⟨p,k,x,ss,ns,v,rfl,a,hv,m,λj i l H1 e=>?_⟩;apply⟨x,ss,ns,_,rfl,a.same e,q j i l H1 e⟩
theorem ok_pls(F:Fun K "places" "Web.places" zf f fd)(T:Txt K mg cc cw):wqY 1 f fd wh (qgP cw):=by
 show F.ok uk (λvs H Q E h=>?_) λ_ _ _ _ H vs Q E g h=>?_
 .obtain⟨x,ss,ns,rfl,_⟩:=h;rfl
 .obtain⟨x,ss,ns,rfl,⟨dx,d,ol,n,b,c,a,e,hw⟩,q⟩:=h;show⟨_,(qf (qm (zr (qdn (K:=K) rfl rfl) rfl T.b_list XA (qa (qK (K:=K) rfl (pv 0) rfl) qb)))),?_⟩;apply .inl ⟨x,cw,dx,_,.ref ol,rfl,b,T.wcl,T.wo,qa4,?_⟩;apply .inl ⟨ol,_,rfl,.inl (SqL.of a),q⟩
inductive Rch(ns:LQ)(i:Nat):Nat->Prop
 | base:Rch ns i i
 | step {a b:Nat} (h:Rch ns i a) (t:(ns.getD a 0).testBit b=true):Rch ns i b
structure All2{α β:Type}(R:α->β->Prop)(l:List α)(m:List β):Prop where
 len:l.length=m.length
 at_:∀(k:Nat) a b,l[k]?=some a->m[k]?=some b->R a b
theorem All2.nil{R:α->β->Prop}:All2 R [] []:=⟨rfl,λk a b h=>by simp at h⟩
theorem All2.mono{R S:α->β->Prop}{l:List α}{m:List β}(h:All2 R l m)(f:∀ a b,R a b->S a b):All2 S l m:=⟨h.len,λk a b x y=>f a b (h.at_ k a b x y)⟩
theorem All2.snoc{R:α->β->Prop}{l:List α}{m:List β}{x:α}{y:β}(h:All2 R l m)(r:R x y):All2 R (l++[x]) (m++[y]):=by
 show⟨by rw[yx,yx,h.len];rfl,λk a b c hb=>?_⟩;by_cases d:k<l.length
 .rw [yQ d] at c;rw[yQ (by rw[<- h.len];show d)] at hb;show h.at_ k a b c hb
 .rw [yS (by lk)] at c;rw[yS (by rw[<- h.len];lk)] at hb
  have e:k-l.length=0:=by
   have:=(yc.mp c).1;simp at this;lk
  rw[<- h.len] at hb;rw[e] at c hb;cases c;cases hb;show r
theorem All2.mem{R:α->β->Prop}{l:List α}{m:List β}(h:All2 R l m){x:α}(c:x∈l):∃ y∈m,R x y:=by
 obtain⟨k,b,e⟩:=XW c;have a:k<m.length:=by rw[<- h.len];show b
 show⟨m[k],xR a,h.at_ k x m[k] (by rw[yb b,e]) (yb a)⟩
open Classical in
theorem idx_at(b:ss.Nodup)(h:ss[i]?=some s):ss.idxOf s=i:=by
 have a:s∈ss:=ye h;have hl:ss.idxOf s<ss.length:=YI a;show qz b (by rw[yb hl,YM]) h
theorem qbg(f:ss.Nodup)(b:Nat):inB ss 0 b=ss.filter λs=>b.testBit (ss.idxOf s):=by
 have e:∀ k,k<=ss.length->inB (ss.take k) 0 b=(ss.take k).filter λs=>b.testBit (ss.idxOf s):=λk=>by
  induction k with
  | zero=>intro _;simp[inB]
  | succ k ih =>
   intro h;have a:ss[k]?=some ss[k]:=yb (by lk);generalize ss[k]=g at a;have d:ss.take (k+1)=ss.take k++[g]:=by rw[yT,a];rfl
   have c:(ss.take k).length=k:=by rw[Yc];lk
   rw[d,qbp,Ys,ih (by lk),c,xw]
   congr 1
   rw[xT,List.filter_nil,idx_at f a]
 have:=e ss.length (yg _)
 rwa[Ye] at this
theorem Km:FnScope ["self","ties","one","other"] wh (qd qap):=fS
theorem uI:FnScope wh wh (qd qaq):=fS
theorem j0(b:s∈ss)(a:jG s=true):qI ss (.str s)=true:=by
 unfold qI;rw[yB (show qaA (.str s)=true from a)];show yL b
theorem j5(h:jG s=true):s.length<=6:=(ji (x:=.str s) h).2.2
theorem inB_mem(a:ss.Nodup){b:Nat}(h:s∈inB ss 0 b):s∈ss/\b.testBit (ss.idxOf s)=true:=by
 rw[qbg a] at h;show yn.mp h
def qf8(ss:LN)(ns:LQ)(i:Nat):LS:=((inB ss 0 (ns.getD i 0)).filter λo=>decide (i<ss.idxOf o)).map λo=>(ss.getD i "",o)
def qbj(ss:LN)(ns:LQ)(i:Nat):LS:=(List.range i).flatMap (qf8 ss ns)
def PrAt(H H':Hp)(l:Addr)(t:Addr)(a:Str×Str):Prop:=H t=none/\t≠l/\H' t=some (.tup [.str a.1,.str a.2])
theorem PrAt.same{a:Str×Str}(h:PrAt H H1 l t a)(s:L2.Same H1 H2):PrAt H H2 l t a:=⟨h.1,h.2.1,s _ _ h.2.2⟩
def qhl(cw:Addr):Sp:=λvs H Q _=>∃(x:Addr) (ss:LN) (ns:LQ),vs=[.ref x]/\WebAt cw H x ss ns /\
 ∀(l:Addr) (ts:LX) (H':Hp),L2.Same H H'->H l=none->H' l=some (.lst (ts.map V.ref))->ts.length<=196->All2 (PrAt H H' l) ts (qbj ss ns ss.length)->Q (.ref l) H'
def qeS(cw:Addr):Sp:=λvs H Q _=>∃(x:Addr) (ss:LN) (ns:LQ),vs=[.ref x]/\WebAt cw H x ss ns /\
 ∀(t a b l:Addr) (ts:LX) (H':Hp),L2.Same H H'->H' t=some (.tup [.ref a,.ref b])->H' a=some (.tup (ss.map V.str))->H' b=some (.tup (ts.map V.ref))->All2 (PrAt H H' l) ts (qbj ss ns ss.length)->Q (.ref t) H'
theorem ok_ts(F:Fun K "ties" "Web.ties" qap f fd)(T:Txt K mg cc cw)(Kp:wqX 6 cw "beside" wqm (λvs H Q _=>qhk cc cw vs H Q E0)):wqY 7 f fd wh (qhl cw):=by
 show F.ok Km (λvs H Q E h=>?_) λ_ _ _ _ H vs Q E hr h=>?_
 .obtain⟨x,ss,ns,rfl,_⟩:=h;rfl
 .obtain⟨x,ss,ns,rfl,hW,q⟩:=h;have hu:=zT hr;obtain⟨dx,d,ol,n,hx,hd,ho,hn,hw⟩:=id hW;have few:=hw.few
  have num:∀(H1:Hp) (y:Str) (i:Nat),L2.Same H H1->ss[i]?=some y->DGet H1 d (.str y) (some (.int (i:Nat))):=λH1 y i R C=>by
   obtain⟨j,hj,gj,vj⟩:=jO (i:=0) (ye C);rw[xw] at vj;have L:j=i:=qz hw.nd gj C;subst L;have:=DGet.k (k:=Sum.inr y) (R _ _ hd);rw[vj] at this;show this
  show⟨_,(qe (qx (i:=1) Km.nd rfl (yJ rfl) (qy qb))
 (qe (zW xq rfl (jR (K:=K) rfl (qK (K:=K) rfl (pv 0) rfl)) (qr (i:=2) Km.nd rfl (yJ rfl))
 (qf (zW xq rfl (jR (K:=K) rfl (jo Kp (hmR hr) (pv 0) (qa (pv 2) qb))) (qr (i:=3) Km.nd rfl (yJ rfl))
 (qf (jf (qw qgs (qG (qH (K:=K) rfl hu) (qK (K:=K) rfl (pv 0) rfl) (pv 2) (λ_ _=>rfl)) (qG (qH (K:=K) rfl hu) (qK (K:=K) rfl (pv 0) rfl) (pv 3) (λ_ _=>rfl)) (qJ _)) (qf (qB (qeb (K:=K) rfl yH Yh Yi jw (pv 1) (qa (qV (qa (pv 2) (qa (pv 3) qb))) qb)))) qu)))))
 (qf (qm (pv 1))))),?_⟩
  apply⟨by decide,λl hl=>?_⟩;have s0:=qF (Sr H) (o:=.lst []) hl;apply .inl ⟨x,cw,dx,_,.ref ol,rfl,s0 _ _ hx,T.wcl,T.wo,qa4,?_⟩;show .inl ⟨⟨_,SqL.of (s0 _ _ ho)⟩,zw (K:=K) (λi σ H'=>∃(ts:LX) (x2 U:Option V),σ=[some (.ref x),some (.ref l),x2,U]/\L2.Same H H'/\H' l=some (.lst (ts.map V.ref))/\ts.length<=i*14/\All2 (PrAt H H' l) ts (qbj ss ns i))
   ⟨[],none,none,rfl,s0,qc,by simp,All2.nil⟩ (λi σ H' _ B=>by obtain⟨_,_,_,_,z,_⟩:=B;show SqL.of (z _ _ ho)) (λi y σ H1 hy B=>?_) fun σ H1 B=>?_⟩
  .obtain⟨ts,x2,U,rfl,R,G,s,c⟩:=B;have hi:i<ss.length:=by simpa using(yc.mp hy).1
   have C:ss[i]?=some ss[i]:=yb hi;generalize ss[i]=p at C;have ey:y=.str p:=by rw[yd,C] at hy;cases hy;rfl
   subst ey;have X:=hw.nm p (ye C);apply⟨x,dx,_,rfl,R _ _ hx,qau (by room),?_⟩;apply⟨x,0,x,ss,ns,.str p,rfl,hW.same R,Th.flat rfl (λz e=>by cases e;have:=j5 X;lk),(λh=>by rw[j0 (ye C) X] at h;cases h),λj gj _ H2 s2 b hb=>?_⟩;have L:j=i:=qz hw.nd gj C;subst L;have s3:=R.trans s2;have s4:=qF s3 (o:=.lst ((inB ss 0 (ns.getD j 0)).map V.str)) hb;have S:=qF s2 (o:=.lst ((inB ss 0 (ns.getD j 0)).map V.str)) hb;have eb:upd H2 b (.lst ((inB ss 0 (ns.getD j 0)).map V.str)) b=some (.lst ((inB ss 0 (ns.getD j 0)).map V.str)):=qc;have ag:b≠l:=λe=>by rw[e,s2 _ _ G] at hb;cases hb
   have ai:H b=none:=s3.free hb;show .inl ⟨⟨_,SqL.of qc⟩,?_⟩;generalize upd H2 b (.lst ((inB ss 0 (ns.getD j 0)).map V.str))=H3 at s4 S eb ⊢;have J:∀ o,o∈inB ss 0 (ns.getD j 0)->o∈ss:=λo h=>(inB_mem hw.nd h).1;have ad:=qbM (ns.getD j 0) ss 0;have r:qf8 ss ns j=((inB ss 0 (ns.getD j 0)).filter λo=>decide (j<ss.idxOf o)).map λo=>(ss.getD j "",o):=rfl;have aa:ss.getD j ""=p:=by simp[List.getD,C]
   rw[aa] at r;generalize aj:inB ss 0 (ns.getD j 0)=bs at eb J ad r ⊢;show zw (K:=K) (λk σ H'=>∃(us:LX) (U:Option V),σ=[some (.ref x),some (.ref l),some (.str p),U]/\L2.Same H H'/\H' b=some (.lst (bs.map V.str))/\H' l=some (.lst (us.map V.ref))/\us.length<=j*14+k/\All2 (PrAt H H' l) us (qbj ss ns j++((bs.take k).filter λo=>decide (j<ss.idxOf o)).map λo=>(p,o)))
    ⟨ts,_,rfl,s4,eb,S _ _ G,s,by simpa using c.mono λ_ _ h=>h.same S⟩ (λk σ H' _ B=>by obtain⟨_,_,_,_,z,_⟩:=B;show SqL.of z) (λk u σ Z N B=>?_) fun σ Z B=>?_
   .obtain⟨us,U,rfl,I,D,g,v,a⟩:=B;have hk:k<bs.length:=by simpa using(yc.mp N).1
    have gk:bs[k]?=some bs[k]:=yb hk;generalize bs[k]=m at gk;have eu:u=.str m:=by rw[yd,gk] at N;cases N;rfl
    subst eu;have af:=J m (ye gk);have ae:=YI af;have ac:ss[ss.idxOf m]?=some m:=by rw[yb ae,YM]
    have Y:bs.take (k+1)=bs.take k++[m]:=by rw[yT,gk];rfl
    apply .inl ⟨x,cw,dx,_,.ref d,rfl,I _ _ hx,T.wcl,T.wn,jZ,?_⟩;apply .inr ⟨d,.int j,rfl,num Z p j I C,?_⟩;apply .inl ⟨x,cw,dx,_,.ref d,rfl,I _ _ hx,T.wcl,T.wn,jZ,?_⟩;apply .inr ⟨d,.int (ss.idxOf m:Nat),rfl,num Z m _ I ac,?_⟩;apply qU (λM=>?_) λM=>?_
    .have A:j<ss.idxOf m:=by have:=yj M;lk
     apply⟨.inl ⟨rfl,_,SqL.of g⟩,?_⟩;apply⟨wq1,λt ht=>?_⟩;have O:l≠t:=qq g ht;have ah:b≠t:=qq D ht;have s6:=qF (Sr Z) (o:=.tup [.str p,.str m]) ht;apply⟨l,_,_,rfl,rfl,by rw[qh O];show g,by rw[ya];show qk (by have:j*14<=14*14:=Nat.mul_le_mul_right 14 (by lk);lk),?_⟩;show⟨us++[t],_,rfl,qe9 (I.trans s6) hl,by rw[qh ag,qh ah];show D,by rw[qc,yD];rfl,by rw[yx];show us.length+1<=_;lk,?_⟩;rw[Y,Ys,yD,<- xK];have W:([m].filter λo=>decide (j<ss.idxOf o)).map (λo=>(p,o))=[(p,m)]:=by simp[A]
     rw[W];show All2.snoc (a.mono λt' ab h=>⟨h.1,h.2.1,?_⟩) ⟨I.free ht,O.symm,?_⟩
     .rw [qh h.2.1];show s6 _ _ h.2.2
     .rw [qh O.symm,qc]
    .have A:¬ j<ss.idxOf m:=λh=>M (yL (by lk));show⟨us,_,rfl,I,D,g,by lk,?_⟩;have W:([m].filter λo=>decide (j<ss.idxOf o)).map (λo=>(p,o))=[]:=by simp[A]
     rw[Y,Ys,yD,W,Yt];show a
   .obtain⟨us,U,rfl,I,D,g,v,a⟩:=B;rw[ya,Ye] at a;rw[ya] at v;show⟨us,_,_,rfl,I,g,by lk,?_⟩;unfold qbj at a ⊢;rw[xX,List.flatMap_append];have W:[j].flatMap (qf8 ss ns)=(bs.filter λo=>decide (j<ss.idxOf o)).map λo=>(p,o):=by rw[<- r];simp
    rw[W];show a
  .obtain⟨ts,x2,U,rfl,R,G,s,c⟩:=B;rw[ya] at s c;apply q l ts H1 R hl G (by have:ss.length*14<=14*14:=Nat.mul_le_mul_right 14 few;lk) c
theorem ok_told(F:Fun K "told" "Web.told" qaq f fd)(T:Txt K mg cc cw)(v:wqX 7 cw "ties" wh (qhl cw)):wqY 8 f fd wh (qeS cw):=by
 show F.ok uI (λvs H Q E h=>?_) λ_ _ _ _ H vs Q E B h=>?_
 .obtain⟨x,ss,ns,rfl,_⟩:=h;rfl
 .obtain⟨x,ss,ns,rfl,p,q⟩:=h;obtain⟨dx,d,ol,n,r,I,A,J,hw⟩:=id p;show⟨_,(qf (qm (qV (qa (zr (qci (K:=K) rfl) rfl T.b_tuple x4 (qa (qK (K:=K) rfl (pv 0) rfl) qb)) (qa (zr (qci (K:=K) rfl) rfl T.b_tuple x4 (qa (qv v (hmR B) (pv 0)) qb)) qb))))),?_⟩;apply .inl ⟨x,cw,dx,_,.ref ol,rfl,r,T.wcl,T.wo,qa4,?_⟩;apply⟨ol,_,rfl,.inl ⟨SqL.of A,λc h1=>?_⟩⟩;have b:=qF (Sr H) (o:=.tup (ss.map V.str)) h1;have j:upd H c (.tup (ss.map V.str)) c=some (.tup (ss.map V.str)):=qc;generalize upd H c (.tup (ss.map V.str))=H1 at b j ⊢;apply⟨x,dx,_,rfl,b _ _ r,qau (by room),?_⟩;apply⟨x,ss,ns,rfl,p.same b,λl ts H2 s z hl D a=>?_⟩;apply⟨l,_,rfl,.inl ⟨SqL.of hl,λe y=>?_⟩⟩;have g:=qF (Sr H2) (o:=.tup (ts.map V.ref)) y;have m:upd H2 e (.tup (ts.map V.ref)) e=some (.tup (ts.map V.ref)):=qc;generalize upd H2 e (.tup (ts.map V.ref))=u at g m ⊢;apply⟨wq1,λt C=>?_⟩;have i:=qF (Sr u) (o:=.tup [.ref c,.ref e]) C;show q t c e l ts _ ((b.trans s).trans (g.trans i)) qc (i _ _ (g _ _ (s _ _ j))) (i _ _ m) (a.mono λt' G h=>⟨b.free h.1,h.2.1,i _ _ (g _ _ h.2.2)⟩)
def Box(H:Hp)(p:Addr):Prop:=∃ a b c:Int,H p=some (.lst [.int a,.int b,.int c])
def BB(p:Addr)(H H':Hp):Prop:=(∀ b o,b≠p->H b=some o->H' b=some o)/\Box H' p
theorem Th.str(h:s.length<=100000):Th p H n (.str s):=.flat rfl λt e=>by cases e;show h
def NewH(H H':Hp):Hp:=λa=>match H a with | none=>H' a | some _=>none
theorem qaB(c:Str)(ss:LN):inV (.str c) (ss.map V.str)=decide (c∈ss):=by
 unfold inV;rw[List.any_map,Yn,xB,yX];constructor
 .rintro ⟨y,a,e⟩;have:y=c:=eq_of_beq e;rw[<- this];show a
 .intro h;show⟨c,h,YY c⟩
theorem zu(ss:LN):(ss.map V.str).all qM=true:=by rw[kB];show Yo.mpr λ_ _=>rfl
def signs:LN:=("abcdefghijklmno":Str).cps.toList.map λc=>⟨#[c]⟩
theorem slice_ix(k n:Nat):Builtin.Str.strSliceIndices none (some (k:Int)) 1 n=List.range (min k n):=by
 unfold Builtin.Str.strSliceIndices sliceRange;simp only[show(1:Int)>0 by decide,xI];rw[yw (show ¬ ((k:Int)<0) by lk)];have a:max 0 (min (k:Int) n)=((min k n:Nat):Int):=by lk
 rw[a];have b:(λ(j:Nat)=>((0:Int)+1*(j:Int)).toNat)=id:=by funext j;show _=j;lk
 rw[b,List.map_id]
 congr 1
 split
 .rw [kI];lk
 .omega
theorem qeT(a:Array Nat):∀ m,m<=a.size->(List.range m).filterMap (a[·]?)=a.toList.take m
 | 0,_=>rfl
 | m+1,h=>by
  rw[xX,Xr,qeT a m (by lk),yT]
  congr 1
  have e:a[m]?=some a[m]:=xo (by lk);have b:a.toList[m]?=some a[m]:=by rw[xH];show e
  rw[b,Yv,e];rfl
theorem slice_take(z:Str)(k:Nat):(Txt.slice z none (some (k:Int))).cps.toList=z.cps.toList.take k:=by
 unfold Txt.slice;rw[slice_ix];have b:z.length=z.cps.toList.length:=by simp[Str.length]
 split
 .rename_i h
  rw[xu] at h;have:min k z.length=z.length:=by simpa using h
  rw[Yu (by lk)]
 .show(List.filterMap _ _).toArray.toList=_;rw[qeT z.cps (min k z.length) (kt _ _)];show z.cps.toList.take (min k z.length)=_;by_cases a:k<=z.length
  .rw [xW a]
  .rw [Xy (by lk),Yu (by lk),Yu (by lk)]
theorem qdZ(a b:Str):(a++b).cps.toList=a.cps.toList++b.cps.toList:=by
 show(a.cps++b.cps).toList=_;show Array.toList_append
theorem sg_of{c:Nat}(h:97<=c)(b:c<=122):sg c=true:=by
 have a:∀ i,i<26->sg (97+i)=true:=by room
 have:=a (c-97) (by lk)
 rwa[show 97+(c-97)=c by lk] at this
def Signs(p:Addr)(H:Hp)(i:Nat)(ys:List V)(H':Hp):Prop:=BB p H H'/\∃ xs:LN,ys=xs.map V.str/\xs.length=i/\∀ x∈xs,x.length=1/\x.cps.toList.all sg=true
def L26:Str:="abcdefghijklmnopqrstuvwxyz"
theorem L26_at{i:Int}(b:0<=i)(h1:i<26):atI L26.cps.toList i=some (97+i.toNat):=by
 obtain⟨n,rfl⟩:=xD b;have a:∀ n,n<26->L26.cps.toList[n]?=some (97+n):=by room
 rw[Yz];show qW (a n (by lk))
theorem nameS_of{x:Str}{l:LQ}(e:x.cps.toList=l)(h1:1<=l.length)(a:l.length<=6)(h:l.all sg=true):jG x=true:=by
 have hl:x.length=l.length:=by rw[<- e];simp[Str.length]
 unfold jG;rw[yB ⟨by lk,by lk⟩,e];show h
theorem nodup_key(h:∀(i j:Nat) (s:Str),ss[i]?=some s->ss[j]?=some s->i=j):ss.Nodup:=by
 show YK.mpr λi j a c b e=>?_;have:=h i j ss[j] (by rw[yb a,e]) (yb c);lk
theorem step_inj{step sh a b:Int}(c:step∈[(1:Int),3,5,7,9,11,15,25])(g:0<=a)(hb:0<=b)(d:a<26)(f:b<26)(e:(sh+step*a) % 26=(sh+step*b) % 26):a=b:=by
 simp only[yt,yv,yN] at c;rcases c with rfl | rfl | rfl | rfl | rfl | rfl | rfl | rfl<;>lk
def NL(p:Addr)(H':Hp)(l:Addr)(ss:LN):Prop:=H' l=some (.lst (ss.map V.str))/\l≠p
structure NOk(ss:LN):Prop where
 few:ss.length<=14
 nd:ss.Nodup
 nm:∀ s∈ss,jG s=true
def PrT(p:Addr)(H:Hp)(t:Addr)(a:Str×Str):Prop:=t≠p/\H t=some (.tup [.str a.1,.str a.2])
def TL(p:Addr)(H:Hp)(l:Addr)(ts:LX)(tps:LS):Prop:=H l=some (.lst (ts.map V.ref))/\l≠p/\All2 (PrT p H) ts tps
theorem qc3(f:α->β):∀(l:List α) (k:Nat),(l.map f).eraseIdx k=(l.eraseIdx k).map f
 | [],_=>rfl
 | _::_,0=>rfl
 | a::r,k+1=>congrArg (f a::·) (qc3 f r k)
theorem All2.erase{R:α->β->Prop}{l:List α}{m:List β}(h:All2 R l m)(k:Nat):All2 R (l.eraseIdx k) (m.eraseIdx k):=by
 show⟨by rw[List.length_eraseIdx,List.length_eraseIdx,h.len],λj a b c hb=>?_⟩;rw[List.getElem?_eraseIdx] at c hb;split at c
 .rename_i hlt
  rw[yB hlt] at hb;show h.at_ j a b c hb
 .rename_i hlt
  rw[yw hlt] at hb;show h.at_ (j+1) a b c hb
theorem qb5:∀(l:List α) (k:Nat) (h:k<l.length),(l[k]::l.eraseIdx k).Perm l
 | [],_,h=>absurd h (Nat.not_lt_zero _)
 | a::r,0,_=>.refl _
 | a::r,k+1,h=>(List.Perm.swap a _ _).trans (.cons a (qb5 r k (Nat.lt_of_succ_lt_succ h)))
structure TOk(ss:LN)(tps:LS):Prop where
 few:tps.length<=30
 ok:∀ ab∈tps,∃ j k:Nat,j<k/\ss[j]?=some ab.1/\ss[k]?=some ab.2
 nd:tps.Nodup
def Shuf(tps ups:LS):Prop:=∃ c,ups.Perm c/\All2 (λa b=>b=a\/b=(a.2,a.1)) tps c
theorem eqV_self(h:qM v=true):eqV v v=true:=by
 cases v<;>first | rfl | (simp[eqV];done) | cases h
theorem qa5(n:Nat):(List.range n).all (λ_=>true)=true:=by simp
theorem pair_eqD{t s' t':Str}(hb:H b=some (.tup [.str s',.str t']))(f:H a=some (.tup [.str s,.str t])):EqD K H 1 (.ref b) (.ref a) (decide ((s',t')=(s,t))):=by
 by_cases e:b=a
 .subst e;rw[hb] at f;cases f;rw[yL rfl];show .self
 .have z:=EqT.tup (K:=K) (H:=H) (n:=0) (e:=λj=>if j=0 then eqV (.str s') (.str s) else eqV (.str t') (.str t)) (SqT.of hb) (SqT.of f) λj x y c d=>by
   match j,c,d with
   | 0,c,d=>cases c;cases d;show .flat rfl rfl
   | 1,c,d=>cases c;cases d;show .flat rfl rfl
  have g:((List.range (min [V.str s',V.str t'].length [V.str s,V.str t].length)).all (λj=>if j=0 then eqV (.str s') (.str s) else eqV (.str t') (.str t))&&[V.str s',V.str t'].length==[V.str s,V.str t].length)=decide ((s',t')=(s,t)):=by
   show((s'==s)&&((t'==t)&&true)&&true)=_;rw[Yn];simp
  rw[g] at z;show .deep z e
def PL(H:Hp)(l:Addr)(ts:LX)(tps:LS):Prop:=H l=some (.lst (ts.map V.ref))/\All2 (λt a=>H t=some (.tup [.str a.1,.str a.2])) ts tps
theorem PL.same(h:PL H l ts tps)(s:L2.Same H H'):PL H' l ts tps:=⟨s _ _ h.1,h.2.mono λ_ _ z=>s _ _ z⟩
def qef(H:Hp)(z:V):Option (Str×Str):=match z with
 | .ref t=>(match H t with
  | some (.tup [.str a,.str b])=>some (a,b)
  | _=>none)
 | _=>none
theorem qcn{a b:Str}(h:H t=some (.tup [.str a,.str b])):qef H (.ref t)=some (a,b):=by
 unfold qef;dsimp only;rw[h]
theorem any_in(h:All2 (λt b=>H t=some (.tup [.str b.1,.str b.2])) ts tps)(st:Str×Str):((ts.map V.ref).any λz=>decide (qef H z=some st))=decide (st∈tps):=by
 rw[Yn,xB,yX];constructor
 .rintro ⟨z,i,e⟩;obtain⟨t,g,rfl⟩:=yK.mp i;obtain⟨b,c,r⟩:=h.mem g;have e:=yj e;rw[qcn r] at e;cases e;show c
 .intro f;obtain⟨k,d,e⟩:=XW f;have a:k<ts.length:=by rw[h.len];show d
  have r:=h.at_ k ts[k] tps[k] (yb a) (yb d);show⟨.ref ts[k],yK.mpr ⟨_,xR a,rfl⟩,yL ?_⟩;rw[qcn r,e]
theorem qgQ{t:Str}{Q:VK}(h:PL H l ts tps)(f:H a=some (.tup [.str s,.str t]))(q:Q (.bl (decide ((s,t)∈tps))) H):qgK K false (.ref a) (.ref l) H Q:=by
 show .inr (.inr ⟨l,ts.map V.ref,λz=>decide (qef H z=some (s,t)),1,rfl,SqL.of h.1,by decide,λz g=>?_,?_⟩)
 .obtain⟨b,hb,rfl⟩:=yK.mp g;obtain⟨c,_,r⟩:=h.2.mem hb;have e:=pair_eqD (K:=K) r f
  have d:decide (qef H (.ref b)=some (s,t))=decide ((c.1,c.2)=(s,t)):=by
   rw[qcn r];apply xS.mpr;rw[Option.some.injEq]
  show EqD K H 1 (.ref b) (.ref a) (decide (qef H (.ref b)=some (s,t)));rw[d];show e
 .rw [any_in h.2];show q
def qac(ss:LN)(tps:LS)(one:Str):LS:=(ss.filter λo=>decide ((one,o)∈tps)).map λo=>(one,o)
def zq(ss:LN)(tps:LS)(l:LN):LS:=l.flatMap (qac ss tps)
def qf9(ss:LN)(tps:LS)(pl:Str):LN:=ss.filter λo=>decide ((pl,o)∈tps)||decide ((o,pl)∈tps)
theorem qaC(a:(ss.map V.str)[i]?=some y):∃ s,ss[i]?=some s/\y=.str s:=by
 rw[yd] at a
 cases h:ss[i]? with
 | none=>rw[h] at a;cases a
 | some s=>rw[h] at a;cases a;show⟨s,rfl,rfl⟩
def Adj(ss:LN)(ns:LQ)(tps:LS):Prop:=∀ a b s t,ss[a]?=some s->ss[b]?=some t->((ns.getD a 0).testBit b=true↔((s,t)∈tps\/(t,s)∈tps))
theorem qeU(h:s∈ss):ss[ss.idxOf s]?=some s:=by
 have hl:=YI h;rw[yb hl,YM]
structure Wk(ss:LN)(ns:LQ)(k:Nat)(name:Str)(ps qs:LN):Prop where
 nd:ps.Nodup
 has:name∈ps
 rch:∀ s∈ps,s∈ss/\Rch ns k (ss.idxOf s)
 sub:∀ s∈qs,s∈ps
theorem place_new(h:s∉ss):qI ss (.str s)=false:=by
 unfold qI;split
 .show yk h
 .rfl
theorem bes_of(hw:WOk ss ns)(b:Adj ss ns dps){k:Nat}(a:ss[k]?=some s):inB ss 0 (ns.getD k 0)=qf9 ss dps s:=by
 rw[qbg hw.nd];unfold qf9;apply Xn;intro t c;rw[Yn,kC,yX,yX];show b _ _ s t a (qeU c)
theorem vAsgT{b:TE}{a:TGs}(h:b σ H λx H1=>qha K n a x σ H1 D.nx):qfX b (qha K n a) D σ H:=h
def UN(x y:Str×Str):Prop:=x≠y/\x≠(y.2,y.1)
theorem UN.symm{x y:Str×Str}(h:UN x y):UN y x:=⟨λe=>h.1 e.symm,λe=>h.2 (by rw[e])⟩
theorem TOk.un(g:ss.Nodup)(h:TOk ss tps):tps.Pairwise UN:=by
 have n:=h.nd;show List.Pairwise.imp_of_mem (λ{a b} m hb (c:a≠b)=>⟨c,λe=>?_⟩) n;obtain⟨j,k,h1,d,f⟩:=h.ok a m;obtain⟨r,k',q,i,l⟩:=h.ok b hb;rw[e] at d f;have o:=qz g d l;have p:=qz g f i;lk
theorem Shuf.un(u:ss.Nodup)(h:TOk ss tps)(sh:Shuf tps ups):ups.Pairwise UN:=by
 obtain⟨f,v,o⟩:=sh;have w:=h.un u;show v.symm.pairwise ?_ λh=>h.symm;show YK.mpr λi j s t r=>?_;have l:i<tps.length:=by rw[o.len];show s
 have m:j<tps.length:=by rw[o.len];show t
 have g:=YK.mp w i j l m r;have p:=o.at_ i tps[i] f[i] (yb l) (yb s);have q:=o.at_ j tps[j] f[j] (yb m) (yb t);generalize tps[i]=a at g p;generalize tps[j]=b at g q;generalize f[i]=c at p;generalize f[j]=d at q;obtain⟨x,y⟩:=a;obtain⟨z,A⟩:=b;obtain⟨h1,n⟩:=g;rcases p with rfl | rfl<;>rcases q with rfl | rfl<;>show⟨λe=>?_,λe=>?_⟩<;>dsimp only at e h1 n<;>rw[XD] at e<;>simp only[ne_eq,XD] at h1 n<;>first | show h1 ⟨e.1,e.2⟩ | show n ⟨e.1,e.2⟩ | show h1 ⟨e.2,e.1⟩ | show n ⟨e.2,e.1⟩
theorem Shuf.mem(sh:Shuf tps ups)(s t:Str):((s,t)∈ups\/(t,s)∈ups)↔((s,t)∈tps\/(t,s)∈tps):=by
 obtain⟨f,m,i⟩:=sh;rw[m.mem_iff,m.mem_iff];constructor
 .have b:∀ c∈f,c∈tps\/(c.2,c.1)∈tps:=λc hc=>by
   obtain⟨k,l,e⟩:=XW hc;have g:k<tps.length:=by rw[i.len];show l
   have a:=i.at_ k tps[k] f[k] (yb g) (yb l);rw[e] at a;rcases a with a | a
   .rw [a];show .inl (xR g)
   .rw [a];show .inr (xR g)
  rintro(h | h)
  .show b _ h
  .rcases b _ h with h | h
   .show .inr h
   .show .inl h
 .have b:∀ c∈tps,c∈f\/(c.2,c.1)∈f:=λc hc=>by
   obtain⟨d,j,r⟩:=i.mem hc;rcases r with r | r
   .rw [<- r];show .inl j
   .rw [<- r];show .inr j
  rintro(h | h)
  .show b _ h
  .rcases b _ h with h | h
   .show .inr h
   .show .inl h
theorem Shuf.good(h:TOk ss tps)(sh:Shuf tps ups):∀ c∈ups,c.1∈ss/\c.2∈ss/\(ss.Nodup->c.1≠c.2):=λc d=>by
 have:=(sh.mem c.1 c.2).mp (.inl d);rcases this with h' | h'
 .obtain⟨j,k,h1,a,b⟩:=h.ok _ h';show⟨ye a,ye b,λf e=>by dsimp only at a b;rw[e] at a;have:=qz f a b;lk⟩
 .obtain⟨j,k,h1,a,b⟩:=h.ok _ h';show⟨ye b,ye a,λf e=>by dsimp only at a b;rw[e] at b;have:=qz f a b;lk⟩
theorem Shuf.len(sh:Shuf tps ups):ups.length=tps.length:=by
 obtain⟨c,b,a⟩:=sh;rw[b.length_eq,a.len]
theorem qeV:∀(l acc:LN),(∀ s∈l,jG s=true)->l.Nodup->(∀ s∈l,s∉acc)->qed (l.map V.str) acc=none
 | [],_,_,_,_=>rfl
 | s::r,acc,hn,nd,hd=>by
  rw[yP,qcZ,yB (show qaA (.str s)=true from hn s yC),yw (show ¬ qQ (.str s)∈acc from hd s yC)];show qed (r.map V.str) (acc++[s])=none;rw[ym] at nd;show qeV r _ (λt a=>hn t (yz _ a)) nd.2 λt a b=>?_;rcases Yj.mp b with h | h
  .show hd t (yz _ a) h
  .have:t=s:=yA.mp h;rw[this] at a;show nd.1 a
theorem tieV_ok{a b:Str}(e:H t=some (.tup [.str a,.str b]))(d:qI ss (.str a)=true)(hb:qI ss (.str b)=true)(c:a≠b):zI H ss (.ref t)=some (a,b):=by
 rw[qdT e,yB]
 .rfl
 .unfold qec;rw[d,hb];simp[qQ,c]
theorem qfM:∀(us:LX) (ups seen:LS),us.length=ups.length->(∀(k:Nat) t ab,us[k]?=some t->ups[k]?=some ab->zI H ss (.ref t)=some ab)->(seen++ups).Pairwise UN->goT H ss (us.map V.ref) seen=none
 | [],_,_,_,_,_=>rfl
 | u::us,[],_,hl,_,_=>by cases hl
 | u::us,ab::ups,seen,hl,hc,hp=>by
  rw[yP,qdU (hc 0 u ab rfl rfl),yw]
  .show qfM us ups (seen++[ab]) (kM hl) (λk t a h1 b=>hc (k+1) t a (by simpa using h1) (by simpa using b)) ?_;rw[xK];show hp
  .rw [List.pairwise_append] at hp;rintro(h | h)
   .show(hp.2.2 ab h ab yC).1 rfl
   .show(hp.2.2 _ h ab yC).2 rfl
theorem qeW:∀(us:LX) (ups:LS),us.length=ups.length->(∀(k:Nat) t a,us[k]?=some t->ups[k]?=some a->zI H ss (.ref t)=some a)->(us.map V.ref).filterMap (zI H ss)=ups
 | [],[],_,_=>rfl
 | [],_::_,hl,_=>by cases hl
 | _::_,[],hl,_=>by cases hl
 | u::us,a::ups,hl,hc=>by
  rw[yP,Yv,hc 0 u a rfl rfl];show congrArg (a::·) (qeW us ups (kM hl) λk t b h1 c=>hc (k+1) t b (by simpa using h1) (by simpa using c))
theorem qc4(ss:LN):(ss.map V.str).map qQ=ss:=by
 rw[List.map_map];show List.map_id ss
theorem make_ok{v2:V}(b:NOk ss)(c:TOk ss tps)(sh:Shuf tps ups)(hc:All2 (λt a=>H t=some (.tup [.str a.1,.str a.2])) us ups) :
  qf6 H v (some (ss.map V.str)) v2 (some (us.map V.ref))=none/\(us.map V.ref).filterMap (zI H ss)=ups:=by
 have pl:∀ s,s∈ss->qI ss (.str s)=true:=λs e=>j0 e (b.nm s e)
 have f:∀(k:Nat) t a,us[k]?=some t->ups[k]?=some a->zI H ss (.ref t)=some a:=λk t a h1 d=>by
  obtain⟨g,h,i⟩:=sh.good c a (ye d);show tieV_ok (hc.at_ k t a h1 d) (pl _ g) (pl _ h) (i b.nd)
 have j:qgg v (some (ss.map V.str))=none:=by
  show(if 14<(ss.map V.str).length then _ else qed (ss.map V.str) [])=none;rw[yw (by rw[ya];have:=b.few;lk)];show qeV ss [] b.nm b.nd (by simp)
 show⟨?_,qeW us ups hc.len f⟩;unfold qf6;rw[j];show qfa H ((ss.map V.str).map qQ) v2 (some (us.map V.ref))=none;rw[qc4];show(if 30<(us.map V.ref).length then _ else(goT H ss (us.map V.ref) []).map _)=none;rw[yw (by rw[ya,hc.len,sh.len];have:=c.few;lk),qfM us ups [] hc.len f (by simpa using sh.un b.nd c)];rfl
theorem qd0(sh:Shuf tps ups)(hb:qab ss ns ups):Adj ss ns tps:=λa b s t c d=>by
 rw[hb.2.2 a b s t c d,yX];show sh.mem s t
theorem qbN(c:TOk ss tps)(s t:Str):(s,t)∈zq ss tps ss↔(s,t)∈tps:=by
 unfold zq;rw[List.mem_flatMap];constructor
 .rintro ⟨one,_,h⟩;unfold qac at h;obtain⟨o,d,e⟩:=yK.mp h;cases e;show yj (yn.mp d).2
 .intro h;obtain⟨j,k,h1,a,b⟩:=c.ok _ h;show⟨s,ye a,?_⟩;unfold qac;show yK.mpr ⟨t,yn.mpr ⟨ye b,yL h⟩,rfl⟩
theorem Adj.ris(c:TOk ss tps)(h:Adj ss ns tps):Adj ss ns (zq ss tps ss):=λa b s t d e=>by
 rw[qbN c,qbN c];show h a b s t d e
theorem qc5(ss:LN):(List.range ss.length).map (λi=>ss.getD i "")=ss:=by
 apply List.ext_getElem?;intro i;rw[yd];by_cases h:i<ss.length
 .rw [List.getElem?_range h,yb h];simp[List.getD,h]
 .rw [List.getElem?_eq_none (by simpa using h),List.getElem?_eq_none (by lk)];rfl
theorem qco(hw:WOk ss ns)(p:TOk ss tps)(t:Adj ss ns tps):qbj ss ns ss.length=zq ss tps ss:=by
 have e:zq ss tps ss=(List.range ss.length).flatMap λi=>qac ss tps (ss.getD i ""):=by
  unfold zq
  conv=>lhs;rw[<- qc5 ss]
  rw[List.flatMap_map];rw[qc5]
 rw[e];unfold qbj
 have g:∀ i∈List.range ss.length,qf8 ss ns i=qac ss tps (ss.getD i ""):=λi b=>by
  have b:i<ss.length:=Xd.mp b;have d:ss[i]?=some (ss.getD i ""):=by simp[List.getD,b]
  unfold qf8 qac
  congr 1
  rw[qbg hw.nd,x5];apply Xn;intro o u;have f:=qeU u;rw[Yn,yF,yX,yX,t i _ _ o d f];constructor
  .rintro ⟨h1,h2 | h2⟩
   .show h2
   .obtain⟨j,k,v,m,n⟩:=p.ok _ h2;have q:=qz hw.nd m f;have s:=qz hw.nd n d;lk
  .intro h;obtain⟨j,k,v,m,n⟩:=p.ok _ h;have q:=qz hw.nd m d;have s:=qz hw.nd n f;show⟨by lk,.inl h⟩
 have c:∀ l:LQ,(∀ i∈l,qf8 ss ns i=qac ss tps (ss.getD i ""))->l.flatMap (qf8 ss ns)=l.flatMap λi=>qac ss tps (ss.getD i ""):=λl=>by
  induction l with
  | nil=>intro _;rfl
  | cons a r ih =>
   intro h;rw[YR,YR,h a yC,ih λi b=>h i (yz _ b)]
 show c _ g
theorem But.out(b:But x H0 H')(s:L2.Same H H0)(a:H x=none):L2.Same H H':=λc o e=>b c o (λz=>by subst z;rw[a] at e;cases e) (s c o e)
def qfj(l:Str):Str:=(PySem.Txt.partition l ":").1
def pMid(l:Str):Str:=(PySem.Txt.partition l ":").2.1
def pTail(l:Str):Str:=(PySem.Txt.partition l ":").2.2
def wds(l:Str):LN:=PySem.Txt.split (pTail l) " "
def fw:LN->Nat->LN->Sum Nat (LN)
 | [],_,acc=>.inr acc
 | l::r,k,acc=>if pMid l=""\/jG (qfj l)=false\/qfj l∈acc\/14<=k then .inl k else fw r (k+1) (acc++[qfj l])
def bel(ss:LN):LN->Nat->Bool
 | [],_=>true
 | w::r,k=>if w∈ss/\k<ss.idxOf w then bel ss r (ss.idxOf w) else false
def qhI(l:Str):LS:=(wds l).tail.map λo=>(qfj l,o)
def ti(ss:LN):LN->Nat->LS->Sum Nat (LS)
 | [],_,acc=>.inr acc
 | l::r,k,acc=>if (wds l).headD ""≠""\/bel ss (wds l).tail k=false\/30<(acc++qhI l).length then .inl k else ti ss r (k+1) (acc++qhI l)
theorem drop_at{xs:List α}{x:α}(b:xs[i]?=some x):xs.drop i=x::xs.drop (i+1):=by
 have a:i<xs.length:=(yc.mp b).1;rw[xU a,(yc.mp b).2]
theorem Shuf.self(tps:LS):Shuf tps tps:=⟨tps,List.Perm.refl _,rfl,λk a b h1 c=>by rw[h1] at c;cases c;show .inl rfl⟩
theorem WebN.old(h:WebN H1 cw H x ss ns)(s:L2.Same H0 H1):WebN H0 cw H x ss ns:=by
 obtain⟨dx,d,ol,n,h1,e,f,g,i,a,b,c⟩:=h;show⟨dx,d,ol,n,h1,e,f,g,i,s.free a,s.free b,s.free c⟩
theorem qd1{G:Hp}{l:Addr}{Q:VK}(h1:G l=some (.lst (ss.map V.str)))(F:G l'=some (.lst (us.map V.ref)))(m:All2 (λt g=>G t=some (.tup [.str g.1,.str g.2])) us ups)
  (h:NOk ss) (p:TOk ss tps) (sh:Shuf tps ups) (d:G x=none) (y:G dx=none) (B:x≠dx) (q:∀ ns H',L2.Same G H'->WebN G cw H' x ss ns->qab ss ns ups->Q .non H') :
  qee cc cw [.ref x,.ref l,.ref l'] (upd (upd G dx (.own x)) x (.ins cw dx [])) Q E:=by
 have f:L2.Same G (upd (upd G dx (.own x)) x (.ins cw dx [])):=qF (qF (Sr G) y) (by rw[qh B];show d);have A:=m.mono λt g z=>f _ _ z;have j:=make_ok (H:=upd (upd G dx (.own x)) x (.ins cw dx [])) (v:=.ref l) (v2:=.ref l') h p sh A;have nx:∀{a:Addr} {o:HO},G a=some o->a≠x:=λe z=>by rw[z,d] at e;cases e
 show⟨x,x,dx,.ref l,some (ss.map V.str),.ref l',some (us.map V.ref),rfl,qc,.lst (f _ _ h1) (nx h1) (λv hv=>?_) (by rw[ya];have:=h.few;lk),.lst (f _ _ F) (nx F) (λv hv=>?_) (by rw[ya,m.len,sh.len];have:=p.few;lk),(λr e=>by rw[j.1] at e;cases e),λ_ ns H' b i c=>?_⟩
 .obtain⟨s,N,rfl⟩:=yK.mp hv;show Th.flat rfl λz e=>by cases e;have:=j5 (h.nm _ N);lk
 .obtain⟨u,C,rfl⟩:=yK.mp hv;obtain⟨g,w,D⟩:=m.mem C;obtain⟨L,M,_⟩:=sh.good p g w;show(Th.tup (n:=1) (f _ _ D) (nx D) (λz I=>?_) (by show 2<=1000;decide));simp only[yt,yv,yN] at I;rcases I with rfl | rfl
  .show Th.flat rfl λz e=>by cases e;have:=j5 (h.nm _ L);lk
  .show Th.flat rfl λz e=>by cases e;have:=j5 (h.nm _ M);lk
 .have J:((some (ss.map V.str)).getD []).map qQ=ss:=qc4 ss;rw[J] at c i;have K:((some (us.map V.ref)).getD []).filterMap (zI (upd (upd G dx (.own x)) x (.ins cw dx [])) ss)=ups:=j.2;rw[K] at c;show q ns H' (b.out f d) (i.old f) c
theorem kX:FnScope wqz ["self","places"] (qd je):=fS
structure WG(ss:LN)(ns:LQ)(dps:LS):Prop where
 tok:TOk ss dps
 adj:Adj ss ns dps
 due:qbj ss ns ss.length=dps
def qfb(ss:LN):List V->Option V
 | []=>none
 | x::r=>if qI ss x=true then qfb ss r else some x
def qad(ss:LN)(xs:List V):LN:=ss.filter λs=>!decide (s∈xs.map qQ)
def qav(dps:LS)(ks:LN):LS:=dps.filter λt=>decide (t.1∈ks)&&decide (t.2∈ks)
theorem qd2{a b:Str}:∀{l:LN} {j k:Nat},l[j]?=some a->l[k]?=some b->j<k->[a,b].Sublist l
 | [],_,_,h,_,_=>by simp at h
 | x::r,0,k+1,h1,c,_=>by
  have e:x=a:=by simpa using h1
  subst e;have c:r[k]?=some b:=by simpa using c
  show(List.singleton_sublist.mpr (ye c)).cons₂ x
 | x::r,j+1,k+1,h1,c,h=>(qd2 (l:=r) (by simpa using h1) (by simpa using c) (by lk)).cons x
theorem qd3{a b:Str}:∀{l:LN},[a,b].Sublist l->∃ j k:Nat,j<k/\l[j]?=some a/\l[k]?=some b
 | [],h=>by cases h
 | x::r,h=>by
  cases h with
  | cons _ h =>
   obtain⟨j,k,h1,c,d⟩:=qd3 h;show⟨j+1,k+1,by lk,by simpa using c,by simpa using d⟩
  | cons_cons _ h =>
   have hb:=List.singleton_sublist.mp h;obtain⟨k,e⟩:=XF hb;show⟨0,k+1,by lk,rfl,by simpa using e⟩
theorem NOk.keep(h:NOk ss)(p:Str->Bool):NOk (ss.filter p):=⟨yh (YC _ _) h.few,h.nd.filter _,λs a=>h.nm s (yn.mp a).1⟩
theorem TOk.keep(h:TOk ss dps)(p:Str->Bool):TOk (ss.filter p) (qav dps (ss.filter p)):=by
 show⟨yh (YC _ _) h.few,λc a=>?_,h.nd.filter _⟩;obtain⟨f,hc⟩:=yn.mp a;rw[yF,yX,yX] at hc;obtain⟨j,k,h1,d,e⟩:=h.ok c f;have b:=(qd2 d e h1).filter p;have g:=(yn.mp hc.1).2;have i:=(yn.mp hc.2).2;rw[Xc g,Xc i,List.filter_nil] at b;show qd3 b
theorem qbO{q:Str×Str->Bool}{f:Str->LS}:∀ l:LN,(l.flatMap f).filter q=l.flatMap λa=>(f a).filter q
 | []=>rfl
 | a::r=>by rw[YR,YR,Ys,qbO r]
theorem qbP{g:Str->LS}{p:Str->Bool}:∀ l:LN,(∀ a∈l,p a=false->g a=[])->l.flatMap g=(l.filter p).flatMap g
 | [],_=>rfl
 | a::r,h=>by
  rw[YR,xT,qbP r λx b=>h x (yz _ b)];cases e:p a
  .rw [h a yC e];rfl
  .rfl
theorem qb6{g h:Str->LS}:∀ l:LN,(∀ a∈l,g a=h a)->l.flatMap g=l.flatMap h
 | [],_=>rfl
 | a::r,e=>by rw[YR,YR,e a yC,qb6 r λx b=>e x (yz _ b)]
theorem ris_keep(j:zq ss dps ss=dps)(p:Str->Bool):zq (ss.filter p) (qav dps (ss.filter p)) (ss.filter p)=qav dps (ss.filter p):=by
 have g:qav dps (ss.filter p)=qav (zq ss dps ss) (ss.filter p):=by rw[j]
 conv=>rhs;rw[g]
 unfold zq qav;rw[qbO];rw[qbP (p:=p) ss λa e i=>?_]
 .show qb6 _ λa e=>?_;unfold qac;rw[List.filter_map,x5]
  congr 1
  rw[x5];show Xn λo f=>?_;rw[Yn];have b:a∈List.filter p ss:=e;simp only[yF,yX,Function.comp,yn];constructor
  .rintro ⟨⟨h1,h,c⟩,d⟩;show⟨⟨yn.mp b,f,d⟩,h1⟩
  .rintro ⟨⟨h1,h,c⟩,d⟩;show⟨⟨d,yn.mp b,f,c⟩,c⟩
 .unfold qac;rw[List.filter_eq_nil_iff];intro t l hc;obtain⟨o,_,rfl⟩:=yK.mp l;rw[yF,yX] at hc;have:=(yn.mp hc.1).2;rw[i] at this;cases this
def OutK(ss:LN)(kvs:List (Key×V))(xs:List V):Prop:=∀(j:Nat) (s:Str),ss[j]?=some s->(qaI kvs (.inl (j:Int):Key)).isSome=decide (s∈xs.map qQ)
def qfN(cc:Nat->Addr)(cw:Addr):Sp:=λvs H Q E=>∃(p x:Addr) (ss:LN) (ns:LQ) (dps:LS) (v:V) (o:Option (List V)),vs=[.ref x,v]/\WebAt cw H x ss ns/\WG ss ns dps/\Arg p H v o/\(o=none->Rz cc H E (2,v))/\(∀ xs y,o=some xs->qfb ss xs=some y->Rz cc H E (2,y)) /\
 ∀ xs,o=some xs->qfb ss xs=none->∀(b:Addr) (a:LQ) (H':Hp),L2.Same H H'->H b=none->WebN H cw H' b (qad ss xs) a->qab (qad ss xs) a (qav dps (qad ss xs))->Q (.ref b) H'
theorem ok_wout(F:Fun K "without" "Web.without" je f fd)(T:Txt K mg cc cw)(Ke:MethOk P w K mg base (CX1 P w) 4 cw "number_of" wqm (qf7 cc cw))(KC:wqX 7 cw "ties" wh (qhl cw))
  (Ub:MakeOk P w K mg base (CX1 P w) 5 cw "Web" wqx (qee cc cw)) (kZ:XMakeOk P w K mg base 2 (cc 2) "NoPlace" wqa (spX (cc 2) (qam 2))):FnOk P w K mg base (CX1 P w) 8 f fd ["self","places"] (qfN cc cw):=by
 show F.ok1 kX (λvs H Q E h=>?_) λ_ _ _ s H vs Q E hr h=>?_
 .obtain⟨p,x,ss,ns,dps,v,o,rfl,_⟩:=h;rfl
 .obtain⟨p,x,ss,ns,dps,v,o,rfl,hW,hG,ha,hz,aq,q⟩:=h;have U:=zT hr;obtain⟨dx,d,ol,n,hx,hd,ho,hn,hw⟩:=id hW;have few:=hw.few
  have num:∀(H1:Hp) (y:Str) (i:Nat),L2.Same H H1->ss[i]?=some y->DGet H1 d (.str y) (some (.int (i:Nat))):=λH1 y i s1 G=>by
   obtain⟨j,hj,X,vj⟩:=jO (i:=0) (ye G);rw[xw] at vj;have al:j=i:=qz hw.nd X G;subst al;have:=DGet.k (k:=Sum.inr y) (s1 _ _ hd);rw[vj] at this;show this
  show⟨_,(qe (jf (jQ (jg (qi (qcf (K:=K) rfl) rfl T.b_isinstance yO (qa (pv 1) (qa (qV (qa (jz (v:=.ty "list") rfl T.b_list XA rfl) (qa (jz (v:=.ty "tuple") rfl T.b_tuple x4 rfl) qb))) qb))))) (qf (qO (K:=K) rfl qp (zY kZ (hmR hr) (qa (pv 1) qb)))) qu)
 (qe (qx (i:=2) kX.nd rfl (xO rfl) qcc)
 (qe (zW Xm rfl (jR (K:=K) rfl (pv 1)) (qr (i:=3) kX.nd rfl (yJ rfl))
 (qf (qbi qcv (qdB (pv 2) (zE Ke (hmR hr) qp (pv 0) (qa (pv 3) qb)) (qdQ U)))))
 (qe (qx (i:=4) kX.nd rfl (xO rfl) (zC (sc:=qd je) (XN:=wqz) ["name","out","self"] 1 [2,0] rfl rfl rfl (by room) rfl (by room)
  (jR (K:=K) rfl (qK (K:=K) rfl (pv 0) rfl)) (λ_ _ _ _=>(qr (i:=0) (show(["name","out","self"]:LN).Nodup by room) rfl (yJ rfl))) zn
  (λ_ _ _ _=>(qaO (qw (qaU (K:=K) rfl U) (qG (qH (K:=K) rfl U) (qK (K:=K) rfl (pv 2) rfl) (pv 0) (λ_ _=>rfl)) (pv 1) (by with_unfolding_all rfl))))
  (λ_ _ _ _=>(pv 0))))
 (qe (ps_setC (sc:=qd je) (XN:=wqz) ["tie","names"] 1 [4] rfl rfl rfl (by room) rfl (by room) (i:=5) kX.nd rfl rfl
  (jR (K:=K) rfl (qv KC (hmR hr) (pv 0))) (λ_ _ _ _=>(qr (i:=0) (show(["tie","names"]:LN).Nodup by room) rfl (yJ rfl))) zn
  (λ_ _ _ _=>(qaO (PW.pt (qel (qw (qdm (K:=K) rfl U) (qG (qH (K:=K) rfl U) (pv 0) qg (λ_ _=>rfl)) (pv 1) (by with_unfolding_all rfl)) (qda (qw (qdm (K:=K) rfl U) (qG (qH (K:=K) rfl U) (pv 0) qg (λ_ _=>rfl)) (pv 1) (by with_unfolding_all rfl)))))))
  (λ_ _ _ _=>(pv 0)))
 (qf (qm (qbn Ub (hmR hr) qp (qa (pv 4) (qa (pv 5) qb)))))))))),?_⟩
  apply⟨wq1,λg hg=>?_⟩;have s0:=qF (Sr H) (o:=.tup [.ty "list",.ty "tuple"]) hg;apply(ha.same s0).isi qc ?_;ext
  cases o with
  | none =>
   show qU (λ_=>?_) (λh=>absurd rfl h);apply qA (T.xat 2 (by decide)) ((hz rfl).later s0)
  | some xs =>
   show yo ?_;obtain⟨au,ap⟩:=ha.few;ext;intro od ac;have s1:=qF s0 (o:=.dK []) ac;have ad:H od=none:=s0.free ac;apply qdr ha s1 (λi σ H'=>∃(kvs:List (Key×V)) (x3:Option V),σ=[some (.ref x),some v,some (.ref od),x3,none,none]/\L2.Same H H'/\H' od=some (.dK kvs)/\kvs.length<=i/\OutK ss kvs (xs.take i)/\qfb ss xs=qfb ss (xs.drop i)) ⟨[],none,rfl,s1,qc,yg _,λj s' _=>by simp[qaI],rfl⟩ (λi σ H' b=>by obtain⟨_,_,_,z,_⟩:=b;show z) (λi y σ H1 C b=>?_) fun σ H1 b=>?_
   .obtain⟨kvs,x3,rfl,D,hk,am,u,a⟩:=b;have ax:i<xs.length:=(yc.mp C).1;have A:xs.take (i+1)=xs.take i++[y]:=by rw[yT,C];rfl
    rw[drop_at C] at a;have a:qfb ss xs=if qI ss y=true then qfb ss (xs.drop (i+1)) else some y:=a;apply⟨x,dx,_,rfl,D _ _ hx,qau (by room),?_⟩;apply⟨p,2,x,ss,ns,y,rfl,hW.same D,(ap y (ye C)).same D,(λh=>(aq xs y rfl (by rw[a,yw (by rw[h];show yV)])).later D),λj X ao H2 ag=>?_⟩;rw[yB ao] at a;apply .inr ⟨od,_,rfl,DPut.k (k:=Sum.inl (j:Int)) (ag _ _ hk) (qk (by lk)),?_⟩;show⟨_,_,rfl,qe9 (D.trans ag) ad,qc,?_,λj' s' I=>?_,a⟩
    .have:=qax kvs (Sum.inl (j:Int):Key) (V.bl true);lk
    .rw [valV_put,A,yD];by_cases e:j'=j
     .subst e;rw[yB rfl];have:s'=qQ y:=by rw[I] at X;show yl X
      simp[this]
     .rw [yw (λz=>e (by have:=Sum.inl.inj z;lk)),u j' s' I];have an:¬ s'=qQ y:=λz=>e (qz hw.nd (by rw[z] at I;show I) X);simp[an]
   .obtain⟨kvs,x3,rfl,D,hk,am,u,a⟩:=b;rw[Xz] at a;rw[Ye] at u;have a:qfb ss xs=none:=a;have q:=q xs rfl a;have ai:qad ss xs=ss.filter λs=>!decide (s∈xs.map qQ):=rfl;apply .inl ⟨x,cw,dx,_,.ref ol,rfl,D _ _ hx,T.wcl,T.wo,qa4,?_⟩;show .inl ⟨⟨_,SqL.of (D _ _ ho)⟩,zt (K:=K) (λi ys H'=>H'=H1/\ys=((ss.take i).filter λs=>!decide (s∈xs.map qQ)).map V.str) ⟨rfl,by simp⟩ (λi ys H' _ b=>by rw[b.1];show SqL.of (D _ _ ho)) (λi y ys H' C b=>?_) λys H' b=>?_⟩
    .obtain⟨rfl,rfl⟩:=b;obtain⟨L,G,rfl⟩:=qaC C;have hi:i<ss.length:=(yc.mp G).1;have A:ss.take (i+1)=ss.take i++[L]:=by rw[yT,G];rfl
     apply .inl ⟨x,cw,dx,_,.ref d,rfl,D _ _ hx,T.wcl,T.wn,jZ,?_⟩;apply .inr ⟨d,.int i,rfl,num _ L i D G,?_⟩;apply .inr (.inl ⟨od,_,rfl,DGet.k (k:=Sum.inl (i:Int)) hk,?_⟩);rw[u i L G];apply qU (λhb=>?_) λhb=>?_
     .ext;have O:L∉xs.map qQ:=by simpa using hb
      show⟨by rw[ya];show qk (yh (YC _ _) (by rw[Yc];lk)),rfl,?_⟩;have ef:([L].filter λs=>!decide (s∈xs.map qQ))=[L]:=by rw[Xc (by rw[yk O];rfl)];rfl
      rw[A,Ys,yD,ef];rfl
     .have O:L∈xs.map qQ:=by simpa using hb
      show⟨rfl,?_⟩;have ef:([L].filter λs=>!decide (s∈xs.map qQ))=[]:=by rw[List.filter_cons_of_neg (by rw[yL O];decide)];rfl
      rw[A,Ys,yD,ef];simp
    .obtain⟨rfl,rfl⟩:=b;have N:ss.take (ss.map V.str).length=ss:=by rw[ya,Ye]
     rw[N,<- ai];have hO:NOk (qad ss xs):=NOk.keep ⟨hw.few,hw.nd,hw.nm⟩ _;have hT:TOk (qad ss xs) (qav dps (qad ss xs)):=TOk.keep hG.tok _;generalize qad ss xs=ks at q hO hT ⊢;show⟨by rw[ya];show Ym (qk (by have:=hO.few;lk)),λc hc=>?_⟩;have s3:=qF D (o:=.lst (ks.map V.str)) hc;have ec:upd H' c (.lst (ks.map V.str)) c=some (.lst (ks.map V.str)):=qc;generalize upd H' c (.lst (ks.map V.str))=H3 at s3 ec ⊢;apply⟨x,dx,_,rfl,s3 _ _ hx,qau (by room),?_⟩;apply⟨x,ss,ns,rfl,hW.same s3,λl ts H4 ah ay hl az J=>?_⟩;rw[hG.due] at J;have s4:=s3.trans ah;have M:=ah _ _ ec;have ae:All2 (λt r=>H4 t=some (.tup [.str r.1,.str r.2])) ts dps:=J.mono λ_ _ z=>z.2.2;have Y:ts.length=dps.length:=ae.len;have aw:=hG.tok.few;show .inl ⟨⟨_,SqL.of hl⟩,zt (K:=K) (λi ys H'=>H'=H4/\∃ us:LX,ys=us.map V.ref/\us.length<=i/\All2 (λt r=>H4 t=some (.tup [.str r.1,.str r.2])) us (qav (dps.take i) ks)) ⟨rfl,[],rfl,yg _,All2.nil⟩ (λi ys H' _ b=>by rw[b.1];show SqL.of hl) (λi y ys H' C b=>?_) λys H' b=>?_⟩
     .obtain⟨rfl,us,rfl,af,B⟩:=b;rw[yd] at C
      cases m:ts[i]? with
      | none=>rw[m] at C;cases C
      | some t =>
       rw[m] at C;cases C;have hi:i<dps.length:=by rw[<- Y];show(yc.mp m).1
       have G:dps[i]?=some dps[i]:=yb hi;have et:=ae.at_ i t dps[i] m G;generalize dps[i]=r at G et;have A:dps.take (i+1)=dps.take i++[r]:=by rw[yT,G];rfl
       have aj:qav (dps.take (i+1)) ks=qav (dps.take i) ks++(if decide (r.1∈ks)&&decide (r.2∈ks) then [r] else []):=by
        unfold qav;rw[A,Ys]
        congr 1
        rw[xT];rfl
       rw[aj];apply .inl (qe8 et rfl ?_);apply .inl ⟨c,_,rfl,.inl (SqL.of M),rfl,zu ks,?_⟩;rw[qaB];apply qU (λhb=>?_) λhb=>?_
       .have R:r.1∈ks:=by simpa using hb
        apply .inl (qe8 et rfl ?_);apply .inl ⟨c,_,rfl,.inl (SqL.of M),rfl,zu ks,?_⟩;rw[qaB];apply qU (λhb=>?_) λhb=>?_
        .have S:r.2∈ks:=by simpa using hb
         apply⟨by rw[ya];show qk (by lk),rfl,us++[t],by rw[yD];rfl,by rw[yx];show us.length+1<=_;lk,?_⟩;rw[yB (by simp[R,S])];show B.snoc et
        .have S:r.2∉ks:=by simpa using hb
         show⟨rfl,us,rfl,by lk,?_⟩;rw[yw (by simp[S]),Yt];show B
       .have R:r.1∉ks:=by simpa using hb
        show yo ?_;show⟨rfl,us,rfl,by lk,?_⟩;rw[yw (by simp[R]),Yt];show B
     .obtain⟨rfl,us,rfl,af,B⟩:=b;have N:dps.take (ts.map V.ref).length=dps:=by rw[ya,Y,Ye]
      rw[N] at B;rw[ya] at af;show⟨by rw[ya];show Ym (qk (by lk)),λe he=>?_⟩;have W:=qF (Sr H') (o:=.lst (us.map V.ref)) he;have s5:=s4.trans W;ext;intro x' av m Z aa;show qd1 (W _ _ M) qc (B.mono λ_ _ z=>W _ _ z) hO hT (Shuf.self _) m Z aa.symm λar H6 as ak hb=>⟨rfl,q x' ar H6 (s5.trans as) (s5.free m) (ak.old s5) hb⟩
theorem uU:FnScope wqG wqG (qd qbq):=fS
theorem kU:FnScope ["_law_cell_here","_law_bases","_law_prime","_law_great","_law_number","_law_found","_law_base"] wqn (qd zJ):=fS
def qhJ(K:W.Frag):Sp:=λvs H Q _=>∃(a:Addr) (ns:LY) (k:Int),vs=[.ref a,.int k]/\SqL K H a (ns.map V.int)/\0<=k/\k<1000/\∀ i:Int,Q (.int i) H
def qg5:Sp:=λvs H Q _=>∃(b:Addr) (c a:Int) (bs:LY),vs=[.int c,.ref b,.int a]/\H b=some (.lst (bs.map V.int))/\0<a/\a<2147483648/\bs.length<=100/\(∀ x∈bs,0<x/\x<1073741824) /\
 ∀(l:Addr) (ns:LY) (H':Hp),L2.Same H H'->H l=none->H' l=some (.lst (ns.map V.int))->ns.length=bs.length->(∀(i:Nat) n x,ns[i]?=some n->bs[i]?=some x->0<=n/\n<x)->Q (.ref l) H'
theorem ok_cl(F:Fun K "_law_cell" "_law_cell" qbq f fd)(T:Txt K mg cc cw):wqY 1 f fd wqG (qhJ K):=by
 show F.ok uU (λvs H Q E h=>?_) λ_ _ _ _ H vs Q E n h=>?_
 .obtain⟨a,ns,k,rfl,_⟩:=h;rfl
 .obtain⟨a,ns,k,rfl,c,p,h1,q⟩:=h;have j:=zT n;show⟨_,(qe (jf (qw (qch (K:=K) rfl j) (qi (zo (K:=K) rfl) rfl T.b_len YH (qa (pv 0) qb)) qg (qJ _)) (qf (qm qg)) qu)
 (qf (qm (qG (qH (K:=K) rfl j) (pv 0) (qD jH (pv 1) (qi (zo (K:=K) rfl) rfl T.b_len YH (qa (pv 0) qb))) (λ_ _=>rfl))))),?_⟩
  apply qeC c ?_;rw[ya];apply .inl (.inl (.inl ⟨rfl,rfl,?_⟩));rw[yw yV];apply qU (λhc=>?_) (λhc=>?_)
  .ext;show q 0
  .have g:0<ns.length:=by
    show Nat.pos_of_ne_zero λe=>hc ?_;rw[e];rfl
   apply qeC c ?_;rw[ya];apply vI (show(0:Int)<(ns.length:Int) by lk) ?_;have l:=yY k (show(ns.length:Int)≠0 by lk);have m:=yR k (show(0:Int)<(ns.length:Int) by lk);obtain⟨v,o,b⟩:=qb2 (xs:=ns.map V.int) l (by rw[ya];show m);rw[yd] at b
   cases d:ns[(k % (ns.length:Int)).toNat]? with
   | none=>rw[d] at b;cases b
   | some i =>
    rw[d] at b;cases b;show .inl (vIxLs c o (q i))
theorem ok_ns(F:Fun K "_law_numbers" "_law_numbers" zJ f fd)(T:Txt K mg cc cw):wqY 1 f fd wqn qg5:=by
 show F.ok kU (λvs H Q E h=>?_) λ_ _ _ _ H vs Q E W h=>?_
 .obtain⟨b,c,p,bs,rfl,_⟩:=h;rfl
 .obtain⟨b,c,p,bs,rfl,hb,B,p1,few,J,q⟩:=h;have hu:=zT W;show⟨_,(qe (qx (i:=3) kU.nd rfl (yJ rfl) (zx op_ge (pv 0) (qD qfr qg qg) (qJ _)))
 (qe (qx (i:=4) kU.nd rfl (yJ rfl) (qD (qaP (K:=K) rfl) (qD jH (qD qea (qD jH (pv 0) (pv 2)) qg) (pv 2)) qg))
 (qe (qx (i:=5) kU.nd rfl (yJ rfl) (qy qb))
 (qe (zW xq rfl (jR (K:=K) rfl (pv 1)) (qr (i:=6) kU.nd rfl (yJ rfl))
 (qe (qx (i:=4) kU.nd rfl (yJ rfl) (qD jH (qD (qaP (K:=K) rfl) (qD qea (pv 4) qg) qg) (pv 2)))
 (qf (jf (jg (pv 3)) (qe (qB (qeb (K:=K) rfl yH Yh Yi jw (pv 5) (qa (qD jH (pv 0) (pv 6)) qb)))
 (qf (qx (i:=0) kU.nd rfl (yJ rfl) (qD qdc (pv 0) (pv 6))))) (qf (qB (qeb (K:=K) rfl yH Yh Yi jw (pv 5) (qa (qD jH (qD jH (qD qea (pv 4) (qD (qaP (K:=K) rfl) (qD qdc (pv 4) qg) qg)) qg) (pv 6)) qb))))))))
 (qf (qm (pv 5))))))),?_⟩
  apply vI ⟨by decide,by decide,by decide⟩ ?_;ext;generalize decide (c ≥ 10 ^ (18:Int).toNat)=g;show vI B ?_;apply qeB (.inr (by decide)) ?_;apply vI B ?_;apply⟨by decide,λl d=>?_⟩;have N:=qF (Sr H) (o:=.lst []) d;have R:upd H l (.lst []) l=some (.lst []):=qc;have aa:b≠l:=qq hb d;generalize upd H l (.lst [])=H1 at N R ⊢;ext;have n1:=yY (c % p*48271) (show p≠0 by lk);have n2:=yR (c % p*48271) B;generalize c % p*48271 % p=z0 at n1 n2;show .inl ⟨⟨_,SqL.of (N _ _ hb)⟩,zw (K:=K) (λi σ H'=>∃(D num:Int) (ns:LY) (O:Option V),σ=[some (.int D),some (.ref b),some (.int p),some (.bl g),some (.int num),some (.ref l),O]/\L2.Same H H'/\H' l=some (.lst (ns.map V.int))/\0<=num/\num<2147500000/\ns.length=i/\∀(j:Nat) n x,ns[j]?=some n->bs[j]?=some x->0<=n/\n<x) ⟨c,z0+8191,[],none,rfl,N,R,by lk,by lk,rfl,λj n x h=>by simp at h⟩ (λi σ H' _ v=>by obtain⟨_,_,_,_,_,z,_⟩:=v;show SqL.of (z _ _ hb)) (λi y σ H2 A v=>?_) fun σ H2 v=>?_⟩
  .obtain⟨D,num,ns,O,rfl,G,a,Y,Z,m,t⟩:=v;rw[yd] at A
   cases e:bs[i]? with
   | none=>rw[e] at A;cases A
   | some x =>
    rw[e] at A;cases A;have hi:i<bs.length:=(yc.mp e).1;obtain⟨C,x1⟩:=J x (ye e)
    have s:∀ r:Int,0<=r->r<x->∀(j:Nat) n y,(ns++[r])[j]?=some n->bs[j]?=some y->0<=n/\n<y:=λr r0 r1 j n y u I=>by
     by_cases L:j<ns.length
     .rw [yQ L] at u;show t j n y u I
     .rw [yS (by lk)] at u
      have S:j-ns.length=0:=by
       have:=(yc.mp u).1;simp only[Yb,xF] at this;lk
      rw[S] at u;cases u;have:j=i:=by lk
      subst this;rw[e] at I;cases I;show⟨r0,r1⟩
    apply qeB (.inr (by decide)) ?_;apply vI B ?_;ext;have M:=yY (num*69621+4099) (show p≠0 by lk);have X:=yR (num*69621+4099) B;generalize (num*69621+4099) % p=z at M X ⊢;show qU (λU=>?_) λU=>?_
    .ext;show⟨.inl ⟨rfl,_,SqL.of a⟩,?_⟩;apply vI C ?_;apply⟨l,_,_,rfl,rfl,a,by rw[ya];show qk (by lk),?_⟩;apply vI ⟨C,x1⟩ ?_;apply⟨_,_,ns++[D % x],_,rfl,qe9 G d,by rw[qc,yD];rfl,M,by lk,by rw[yx,m];rfl,s _ (yY _ (by lk)) (yR _ C)⟩
    .ext;show⟨.inl ⟨rfl,_,SqL.of a⟩,?_⟩;apply vI ⟨by decide,by decide⟩ ?_;apply qeB (.inl ⟨by lk,by lk⟩) ?_;apply vI (by decide) ?_;apply vI C ?_;apply⟨l,_,_,rfl,rfl,a,by rw[ya];show qk (by lk),?_⟩;show⟨_,_,ns++[z*(z / 977+3) % 2147483629 % x],_,rfl,qe9 G d,by rw[qc,yD];rfl,M,by lk,by rw[yx,m];rfl,s _ (yY _ (by lk)) (yR _ C)⟩
  .obtain⟨D,num,ns,O,rfl,G,a,Y,Z,m,t⟩:=v;apply q l ns H2 G d a (by rw[m,ya]) t
theorem kP:FnScope wqg wqU (qd qae):=fS
theorem qdt{X:L2.Cx}{st:List PySem.Stmt}{t:L2.TS}(t':L2.TS)(h:L2.PSs X st t)(k:∀ D σ H,t' D σ H->t D σ H):L2.PSs X st t':=λa s σ H D I q=>h a s σ H D I (k D σ H q)
theorem rep_ok{c:Nat}{n:Int}(h:n=1\/n=2\/n=3):MulOk ⟨#[c]⟩ n/\(Txt.mul ⟨#[c]⟩ n).cps.toList=List.replicate n.toNat c/\(Txt.mul ⟨#[c]⟩ n).length=n.toNat:=by
 rcases h with rfl | rfl | rfl
 .show⟨⟨by decide,λ_ _=>by show ¬ ((1:Int)>(2 ^ 63-1) / 1);decide,λ_ _=>by show Builtin.Str.tooLong (1*1)=false;decide⟩,rfl,rfl⟩
 .show⟨⟨by decide,λ_ _=>by show ¬ ((1:Int)>(2 ^ 63-1) / 2);decide,λ_ _=>by show Builtin.Str.tooLong (1*2)=false;decide⟩,rfl,rfl⟩
 .show⟨⟨by decide,λ_ _=>by show ¬ ((1:Int)>(2 ^ 63-1) / 3);decide,λ_ _=>by show Builtin.Str.tooLong (1*3)=false;decide⟩,rfl,rfl⟩
theorem qfO:L26.cps.toList.all sg=true:=by room
theorem qdu:L26.length=26:=by room
def qhK:Sp:=λvs H Q _=>∃ c:Int,vs=[.int c]/\∀(l:Addr) (ss:LN) (H':Hp),L2.Same H H'->H l=none->H' l=some (.lst (ss.map V.str))->NOk ss->Q (.ref l) H'
theorem ok_nm(F:Fun K "_law_names" "_law_names" qae f fd)(T:Txt K mg cc cw)(kY:wqW 1 "_law_numbers" wqn qg5):wqY 2 f fd wqU qhK:=by
 show F.ok kP (λvs H Q E h=>?_) λ_ _ _ s H vs Q E hr h=>?_
 .obtain⟨c,rfl,_⟩:=h;rfl
 .obtain⟨c,rfl,q⟩:=h;have hu:=zT hr;obtain⟨TC3,r⟩:∃ t:TS,t=λD σ H'=>(∀ u H',Q u H'->D.rt u H')/\∃ x0 x1 x2 x3 x9 W jP step d rest n,σ=[x0,x1,x2,x3,some (.int jP),some (.int step),some (.int d),some (.int rest),some (.int n),x9,W]/\L2.Same H H'/\(0<=jP/\jP<26)/\(0<=step/\step<6)/\(0<=d/\d<4)/\(0<=rest/\rest<26)/\0<=n/\n<15:=⟨_,rfl⟩;show⟨_,(qe (qbi (qE kY (hmR hr) qN (qa (pv 0) (qa (qy (qa qg (qa qg (qa qg (qa qg (qa qg (qa qg (qa qg qb)))))))) (qa qg qb)))) (qdp rfl (qP (qr (i:=1) kP.nd rfl (yJ rfl)) (qP (qr (i:=2) kP.nd rfl (yJ rfl)) (qP (qr (i:=3) kP.nd rfl (yJ rfl)) (qP (qr (i:=4) kP.nd rfl (xO rfl)) (qP (qr (i:=5) kP.nd rfl (xO rfl)) (qP (qr (i:=6) kP.nd rfl (yJ rfl)) (qP (qr (i:=7) kP.nd rfl (yJ rfl)) qca)))))))))
 (qe (qx (i:=8) kP.nd rfl (yJ rfl) (pv 2))
 (qe (jf (qw (qch (K:=K) rfl hu) (pv 1) qg (qJ _)) (qf (qx (i:=8) kP.nd rfl (yJ rfl) (pv 3))) qu)
 (qdt TC3 (qe (qx (i:=9) kP.nd rfl (xO rfl) jN)
 (qe (qx (i:=10) kP.nd rfl (xO rfl) (j9 (qfw (K:=K) rfl) (qD (qaP (K:=K) rfl) (j9 (qfw (K:=K) rfl) (pv 9) (zy (pv 7)) qaw) (pv 9)) qaw (zy (pv 6))))
 (qf (qm (zC (sc:=qd qae) (XN:=wqg) wqA 1 [10,9,4,5] rfl rfl rfl (by room) rfl (by room)
  (zV rfl T.b_range (qa (pv 8) qb)) (λ_ _ _ _=>(qr (i:=0) (show(wqA:LN).Nodup by room) rfl (yJ rfl))) zn
  (λ_ _ _ _=>qaN)
  (λ_ _ _ _=>(qD (qaP (K:=K) rfl) (qD qea (qG (qH (K:=K) rfl hu) (pv 2) (qD jH (qD (qaP (K:=K) rfl) (pv 3) (qD qea (qG (qH (K:=K) rfl hu) (qy (qa qg (qa qg (qa qg (qa qg (qa qg (qa qg qb))))))) (pv 4) (λ_ _=>rfl)) (pv 0))) qg) (λ_ _=>rfl)) (qD (qaP (K:=K) rfl) qg (qD jH (pv 0) qg))) (pv 1)))))))) ?cut3)))),?_⟩
  case cut3 =>
   intro D σ H1 h;rw[r] at h;obtain⟨hD,x0,x1,x2,x3,x9,W,jP,step,d,rest,n,rfl,L,⟨a0,a1⟩,⟨ad,ak⟩,⟨t0,t1⟩,⟨r0,r1⟩,z0,z1⟩:=h;apply qhB (by room) ?_
   have p:(Txt.slice L26 (some rest) none).cps.toList=L26.cps.toList.drop rest.toNat:=by
    have:=slice_drop L26 rest.toNat;rw[show((rest.toNat:Nat):Int)=rest by lk] at this;show this
   have ac:(Txt.slice L26 (some rest) none).length<=26:=by have:=slice_len L26 (some rest) none;rw[qdu] at this;show this
   apply qgE (by show(Txt.slice L26 (some rest) none).length+L26.length<=sizeLine;rw[qdu];show yh (Nat.add_le_add_right ac 26) (by decide)) ?_;ext;have M:=qdZ (Txt.slice L26 (some rest) none) L26
   have N:(Txt.slice L26 (some rest) none++L26).length<=52:=by
    have e:(Txt.slice L26 (some rest) none++L26).length=(Txt.slice L26 (some rest) none++L26).cps.toList.length:=by simp[Str.length]
    have e1:(Txt.slice L26 (some rest) none).length=(Txt.slice L26 (some rest) none).cps.toList.length:=by simp[Str.length]
    have X:L26.length=L26.cps.toList.length:=by simp[Str.length]
    rw[e,M,yx,<- e1,<- X,qdu];lk
   show qhB (yh N (by decide)) ?_;ext
   have U:(Txt.slice (Txt.slice L26 (some rest) none++L26) none (some d)).cps.toList=(L26.cps.toList.drop rest.toNat++L26.cps.toList).take d.toNat:=by
    have:=slice_take (Txt.slice L26 (some rest) none++L26) d.toNat;rw[show((d.toNat:Nat):Int)=d by lk,M,p] at this;show this
   have O:∃ B:Str,Txt.slice (Txt.slice L26 (some rest) none++L26) none (some d)=B/\B.cps.toList.all sg=true/\B.cps.toList.length<=3:=by
    show⟨_,rfl,?_,?_⟩
    .rw [U];show Yo.mpr λx hx=>?_;have:=XG hx;rcases Yj.mp this with z | z
     .show Yo.mp qfO x (List.mem_of_mem_drop z)
     .show Yo.mp qfO x z
    .rw [U,Yc];lk
   obtain⟨B,eE,hE,ag⟩:=O;have Y:Txt.slice (Txt.slice (Str.ofString "abcdefghijklmnopqrstuvwxyz") (some rest) none++Str.ofString "abcdefghijklmnopqrstuvwxyz") none (some d)=B:=eE;rw[Y];show⟨n,rfl,by lk,by lk,qbb (lo:=0) (λi ys H'=>L2.Same H1 H'/\∃ ss:LN,ys=ss.map V.str/\ss.length=i/\∃ sp∈[(1:Int),3,5,7,9,11,15,25],(sp=[1,3,5,7,9,11].getD step.toNat 0)/\∀(j:Nat) s,ss[j]?=some s->jG s=true/\s.cps.toList.head?=some (97+((jP+sp*j) % 26).toNat)) ⟨L2.Same.refl H1,[],rfl,rfl,?_⟩ (λi ys H' hi hp=>?_) λys H' hp=>?_⟩
   .have:∀ k:Nat,k<6->([1,3,5,7,9,11]:LY).getD k 0∈[(1:Int),3,5,7,9,11,15,25]:=by decide
    show⟨_,this step.toNat (by lk),rfl,λj s h=>by simp at h⟩
   .obtain⟨J,ss,rfl,p,sp,y,G,A⟩:=hp;apply qbB ?_;apply⟨by show 6<=sizeLine;decide,λm hm=>?_⟩;have s3:=qF J (o:=.lst [V.int 1,V.int 3,V.int 5,V.int 7,V.int 9,V.int 11]) hm;have em:upd H' m (.lst [V.int 1,V.int 3,V.int 5,V.int 7,V.int 9,V.int 11]) m=some (.lst [V.int 1,V.int 3,V.int 5,V.int 7,V.int 9,V.int 11]):=qc;generalize upd H' m (.lst [V.int 1,V.int 3,V.int 5,V.int 7,V.int 9,V.int 11])=H3 at s3 em ⊢
    have aa:atI [V.int 1,V.int 3,V.int 5,V.int 7,V.int 9,V.int 11] step=some (.int sp):=by
     obtain⟨k,rfl⟩:=xD ad;rw[G,Yz];have C:k<6:=by lk
     have:∀ k:Nat,k<6->([V.int 1,V.int 3,V.int 5,V.int 7,V.int 9,V.int 11]:List V)[k]?=some (.int (([1,3,5,7,9,11]:LY).getD k 0)):=λk C=>by
      match k,C with
      | 0,_=>rfl
      | 1,_=>rfl
      | 2,_=>rfl
      | 3,_=>rfl
      | 4,_=>rfl
      | 5,_=>rfl
     show qW (this k C)
    apply .inl (qbF em aa ?_)
    have aj:0<=sp/\sp<=25:=by
     simp only[yt,yv,yN] at y;rcases y with rfl | rfl | rfl | rfl | rfl | rfl | rfl | rfl<;>decide
    ext;rw[kN];show qeB (.inl ⟨by lk,by lk⟩) ?_;apply vI (by decide) ?_;have c1:=yY (jP+sp*(i:Int)) (show(26:Int)≠0 by decide);have c2:=yR (jP+sp*(i:Int)) (show(0:Int)<26 by decide);show .inl (vIxS (by room) (L26_at c1 c2) ?_);apply vI (by decide) ?_;ext;have hn:1+(i:Int) % 3=1\/1+(i:Int) % 3=2\/1+(i:Int) % 3=3:=by lk
    obtain⟨mo,ml,mn⟩:=rep_ok (c:=97+((jP+sp*(i:Int)) % 26).toNat) hn;show⟨mo,?_⟩;ext;have ae:B.length=B.cps.toList.length:=by simp[Str.length]
    have af:B.length<=3:=by lk
    show qgE (by rw[mn];show yh (show _<=6 by lk) (by decide)) ?_;show⟨by rw[ya,p];show qk (by lk),s3,ss++[_],by rw[yD];rfl,by rw[yx,p];rfl,sp,y,G,λj s v=>?_⟩;by_cases ab:j<ss.length
    .rw [yQ ab] at v;show A j s v
    .rw [yS (by lk)] at v
     have e0:j-ss.length=0:=by
      have:=(yc.mp v).1;simp only[Yb,xF] at this;lk
     rw[e0] at v;cases v;have R:j=i:=by lk
     subst R;have Z:=qdZ (Txt.mul ⟨#[97+((jP+sp*(j:Int)) % 26).toNat]⟩ (1+(j:Int) % 3)) B;rw[ml] at Z;show⟨nameS_of Z ?_ ?_ ?_,?_⟩
     .rw [yx,YB];lk
     .rw [yx,YB];lk
     .rw [List.all_append,hE,Bool.and_true];show Yo.mpr λx hx=>?_;rw[(List.mem_replicate.mp hx).2];show sg_of (by lk) (by lk)
     .rw [Z];obtain⟨k,C⟩:∃ k,(1+(j:Int) % 3).toNat=k+1:=⟨(1+(j:Int) % 3).toNat-1,by lk⟩;rw[C];rfl
   .obtain⟨J,ss,rfl,p,sp,y,G,A⟩:=hp;show⟨by rw[ya,p];show Ym (qk (by lk)),λl I=>hD _ _ ?_⟩;show q l ss _ ((L.trans J).trans (qF (Sr H') I)) ((L.trans J).free I) qc ⟨by lk,nodup_key λj k s v C=>?_,λs hs=>?_⟩
    .have ej:=(A j s v).2;have ek:=(A k s C).2;rw[ej] at ek;have e:=yl ek;have ah:j<ss.length:=(yc.mp v).1;have ai:k<ss.length:=(yc.mp C).1;have q1:=yY (jP+sp*(j:Int)) (show(26:Int)≠0 by decide);have q2:=yY (jP+sp*(k:Int)) (show(26:Int)≠0 by decide);have:=step_inj (a:=j) (b:=k) y (by lk) (by lk) (by lk) (by lk) (sh:=jP) (by lk);lk
    .obtain⟨j,v⟩:=XF hs;show(A j s v).1
  apply qf3 ?_;apply⟨by show 7<=sizeLine;decide,λb hb=>?_⟩;have L:=qF (Sr H) (o:=.lst [V.int 8,V.int 8,V.int 15,V.int 26,V.int 6,V.int 4,V.int 26]) hb;have eb:upd H b (.lst [V.int 8,V.int 8,V.int 15,V.int 26,V.int 6,V.int 4,V.int 26]) b=some (.lst ([8,8,15,26,6,4,26].map V.int)):=qc;generalize upd H b (.lst [V.int 8,V.int 8,V.int 15,V.int 26,V.int 6,V.int 4,V.int 26])=H1 at L eb ⊢;apply⟨b,c,2147483647,[8,8,15,26,6,4,26],rfl,eb,by decide,by decide,by decide,by decide,λl ns H2 J I hl S g=>?_⟩
  match ns,S,hl,g with
  | [n1,n2,n3,n4,n5,n6,n7],_,hl,g =>
   have e1:=g 0 n1 8 rfl rfl;have X:=g 1 n2 8 rfl rfl;have e3:=g 2 n3 15 rfl rfl;have e4:=g 3 n4 26 rfl rfl;have e5:=g 4 n5 6 rfl rfl;have e6:=g 5 n6 4 rfl rfl;have e7:=g 6 n7 26 rfl rfl;show⟨l,_,rfl,.inr (SqL.of hl),rfl,_,_,rfl,_,_,rfl,_,_,rfl,_,_,rfl,_,_,rfl,_,_,rfl,_,_,rfl,rfl,?_⟩;apply .inl (.inl (.inl ⟨rfl,rfl,?_⟩));apply qU (λh=>?_) λh=>?_
   .ext;rw[r];show⟨λ_ _ z=>z,_,_,_,_,_,_,n4,n5,n6,n7,n3,rfl,L.trans J,e4,e5,e6,e7,e3.1,e3.2⟩
   .ext;rw[r];show⟨λ_ _ z=>z,_,_,_,_,_,_,n4,n5,n6,n7,n2,rfl,L.trans J,e4,e5,e6,e7,X.1,by lk⟩
theorem kS:FnScope wqc wqC (qd qar):=fS
theorem vIxAt{Q:VK}{k:Nat}{x:Str}(a:H p=some (.lst (ss.map V.str)))(h:ss[k]?=some x)(q:Q (.str x) H):qfH K (.ref p) (.int k) H Q:=
 .inl (qbF a (qW (by rw[yd,h];rfl)) q)
theorem PL.put(h:PL H l ts tps)(g:All2 (λt a=>H t=some (.tup [.str a.1,.str a.2])) us ups):PL (upd H l (.lst (us.map V.ref))) l us ups:=
 ⟨qc,g.mono λt a z=>by rw[qh (jx z h.1 (by intro z;cases z))];show z⟩
theorem PL.other(h:PL H l ts tps)(a:l≠l')(hl:H l'=some (.lst xs)):PL (upd H l' (.lst ys)) l ts tps:=
 ⟨by rw[qh a];show h.1,h.2.mono λt b z=>by rw[qh (jx z hl (by intro z;cases z))];show z⟩
theorem All2.app{R:α->β->Prop}{d g:List α}{h i:List β}(h1:All2 R d h)(e:All2 R g i):All2 R (d++g) (h++i):=by
 show⟨by rw[yx,yx,h1.len,e.len],λk a b c hb=>?_⟩;by_cases f:k<d.length
 .rw [yQ f] at c;rw[yQ (by rw[<- h1.len];show f)] at hb;show h1.at_ k a b c hb
 .rw [yS (by lk)] at c;rw[yS (by rw[<- h1.len];lk),<- h1.len] at hb;show e.at_ _ a b c hb
theorem vIxN{Q:VK}{ns:LY}{i:Int}{b:Int}{bs:LY}(d:H p=some (.lst (ns.map V.int)))(hl:ns.length=bs.length)(hb:∀(i:Nat) n x,ns[i]?=some n->bs[i]?=some x->0<=n/\n<x)(l:0<=i)(h1:bs[i.toNat]?=some b)(h:∀ n,0<=n->n<b->Q (.int n) H):qfH K (.ref p) (.int i) H Q:=by
 have c:i.toNat<ns.length:=by rw[hl];show(yc.mp h1).1
 have e:ns[i.toNat]?=some ns[i.toNat]:=yb c;obtain⟨f,g⟩:=hb _ _ _ e h1
 have a:atI (ns.map V.int) i=some (.int ns[i.toNat]):=by
  have:=qW (xs:=ns.map V.int) (j:=i.toNat) (v:=.int ns[i.toNat]) (by rw[yd,e];rfl);rw[show((i.toNat:Nat):Int)=i by lk] at this;show this
 show .inl (qbF d a (h _ f g))
theorem cut_len(xs:List V)(a b:Nat):(qbm xs (some (a:Int)) (some (b:Int))).length<=b-a:=by
 unfold qbm;rw[HT.sIx_nat,HT.sIx_nat,Yc];lk
theorem cut_at{a b:Nat}(c:a<=xs.length)(h:(qbm xs (some (a:Int)) (some (b:Int)))[i]?=some v):xs[a+i]?=some v/\i<b-a:=by
 have hl:=(yc.mp h).1;have:=cut_len xs a b;unfold qbm at h;rw[HT.sIx_nat,HT.sIx_nat,xW c,List.getElem?_take] at h;split at h
 .rw [ki] at h;show⟨h,by lk⟩
 .cases h
def qhL:Sp:=λvs H Q _=>∃(n:Addr) (c:Int) (ss:LN),vs=[.ref n,.int c]/\H n=some (.lst (ss.map V.str))/\NOk ss/\∀(l:Addr) (ts:LX) (tps ups:LS) (H':Hp),L2.Same H H'->H l=none->PL H' l ts ups->TOk ss tps->Shuf tps ups->Q (.ref l) H'
theorem ok_ts2(F:Fun K "_law_ties" "_law_ties" qar f fd)(T:Txt K mg cc cw)(kY:wqW 1 "_law_numbers" wqn qg5):wqY 2 f fd wqC qhL:=by
 show F.ok kS (λvs H Q E h=>?_) λ_ _ _ _ H vs Q E hr h=>?_
 .obtain⟨n,c,ss,rfl,_⟩:=h;rfl
 .obtain⟨n,c,ss,rfl,hn,hO,q⟩:=h;have few:=hO.few;have hu:=zT hr;show⟨_,(qe (qx (i:=2) kS.nd rfl (xO rfl) (qy qb))
 (qe (zW xq rfl (zV rfl T.b_range (qa (qi (zo (K:=K) rfl) rfl T.b_len YH (qa (pv 0) qb)) qb)) (qr (i:=3) kS.nd rfl (xO rfl))
 (qf (qB (qeb (K:=K) rfl yH PySem.F.slot_list_extend PySem.F.type_list_extend qb4 (pv 2) (qa (zC (sc:=qd qar) (XN:=wqc) wqN 1 [0,3] rfl rfl rfl (by room) rfl (by room)
  (jR (K:=K) rfl (j9 (qfw (K:=K) rfl) (pv 0) (zy (qD (qaP (K:=K) rfl) (pv 3) qg)) qaw)) (λ_ _ _ _=>(qr (i:=0) (show(wqN:LN).Nodup by room) rfl (yJ rfl))) zn
  (λ_ _ _ _=>qaN)
  (λ_ _ _ _=>(qV (qa (qG (qH (K:=K) rfl hu) (pv 1) (pv 2) (λ_ _=>rfl)) (qa (pv 0) qb))))) qb)))))
 (qe (qx (i:=4) kS.nd rfl (yJ rfl) (qi (qcC rfl) rfl T.b_min boot_min (qa qg (qa (qi (zo (K:=K) rfl) rfl T.b_len YH (qa (pv 2) qb)) qb))))
 (qe (qx (i:=5) kS.nd rfl (yJ rfl) (qD (qaP (K:=K) rfl) (qy (qa (qD (qaP (K:=K) rfl) (pv 4) qg) qb)) (zC (sc:=qd qar) (XN:=wqc) ["_law_k","_law_pool"] 1 [2] rfl rfl rfl (by room) rfl (by room)
  (zV rfl T.b_range (qa (pv 4) qb)) (λ_ _ _ _=>(qr (i:=0) (show(["_law_k","_law_pool"]:LN).Nodup by room) rfl (yJ rfl))) zn
  (λ_ _ _ _=>qaN)
  (λ_ _ _ _=>(qD qea qg (qD qfq (qi (zo (K:=K) rfl) rfl T.b_len YH (qa (pv 1) qb)) (pv 0)))))))
 (qe (qx (i:=6) kS.nd rfl (yJ rfl) (qE kY (hmR hr) qN (qa (pv 1) (qa (pv 5) (qa qg qb)))))
 (qe (qx (i:=7) kS.nd rfl (yJ rfl) (qy qb))
 (qe (zW xq rfl (jR (K:=K) rfl (j9 (qfw (K:=K) rfl) (pv 6) (zy qg) (zy (qD (qaP (K:=K) rfl) qg (qG (qH (K:=K) rfl hu) (pv 6) qg (λ_ _=>rfl)))))) (qr (i:=8) kS.nd rfl (yJ rfl))
 (qe (qbi (qeb (K:=K) rfl yH Xs Xu mtR_popAt (pv 2) (qa (qD qdc (pv 8) qg) qb)) (qfp rfl (qP (qr (i:=9) kS.nd rfl (yJ rfl)) (qP (qr (i:=10) kS.nd rfl (yJ rfl)) qca))))
 (qf (qB (qeb (K:=K) rfl yH Yh Yi jw (pv 7) (qa (qG (qH (K:=K) rfl hu) (qy (qa (qV (qa (pv 9) (qa (pv 10) qb))) (qa (qV (qa (pv 10) (qa (pv 9) qb))) qb))) (qD jH (pv 8) qg) (λ_ _=>rfl)) qb))))))
 (qf (qm (pv 7)))))))))),?_⟩
  apply⟨by decide,λl hl=>?_⟩;have s1:=qF (Sr H) (o:=.lst []) hl;have t1:PL (upd H l (.lst [])) l [] []:=⟨qc,All2.nil⟩;generalize upd H l (.lst [])=H1 at s1 t1 ⊢;apply qbG (s1 _ _ hn) ?_;rw[ya];show⟨_,rfl,by lk,by lk,qcA (λi σ H'=>L2.Same H H'/\∃(ts:LX) (A:LS) (x3:Option V),σ=[some (.ref n),some (.int c),some (.ref l),x3,none,none,none,none,none,none,none]/\PL H' l ts A/\A.length<=14*i/\A.Nodup/\∀ C∈A,∃ j k,j<k/\ss[j]?=some C.1/\ss[k]?=some C.2/\j<i)
   ⟨s1,[],[],none,rfl,t1,by simp,by simp,by simp⟩ (λi σ H2 hi B=>?_) fun σ H2 B=>?_⟩
  .obtain⟨s2,ts,A,x3,rfl,p,bi,nd,ok⟩:=B;have bc:i<ss.length:=by lk
   have gx:ss[i]?=some ss[i]:=yb bc;generalize ss[i]=x at gx;apply⟨.inl ⟨rfl,_,SqL.of p.1⟩,?_⟩;rw[kN]
   have aw:qbm (ss.map V.str) (some ((i:Int)+1)) none=(ss.drop (i+1)).map V.str:=by
    have:=qcU (ss.map V.str) (i+1);rw[<- List.map_drop] at this;show this
   apply .inl ⟨n,_,rfl,SqL.of (s2 _ _ hn),λd hd=>?_⟩;rw[aw];have G:=qF (Sr H2) (o:=.lst ((ss.drop (i+1)).map V.str)) hd;have ed:upd H2 d (.lst ((ss.drop (i+1)).map V.str)) d=some (.lst ((ss.drop (i+1)).map V.str)):=qc;replace p:=p.same G;have Y:=s2.trans G;generalize upd H2 d (.lst ((ss.drop (i+1)).map V.str))=H3 at Y ed p ⊢;clear G s2;have lr:(ss.drop (i+1)).length<=13:=by rw[xQ];lk
   show .inl ⟨⟨_,SqL.of ed⟩,zt (K:=K) (λm ys H'=>L2.Same H3 H'/\∃ us:LX,ys=us.map V.ref/\us.length=m/\All2 (λt C=>H' t=some (.tup [.str C.1,.str C.2])) us (((ss.drop (i+1)).take m).map λy=>(x,y))) ⟨L2.Same.refl H3,[],rfl,rfl,by simpa using All2.nil⟩ (λm ys H' _ B=>SqL.of (B.1 _ _ ed)) (λm v ys H' hv B=>?_) λys H4 B=>?_⟩
   .obtain⟨L,us,rfl,R,N⟩:=B
    obtain⟨y,gy,rfl⟩:∃ y,(ss.drop (i+1))[m]?=some y/\v=.str y:=by
     rw[yd] at hv
     cases e:(ss.drop (i+1))[m]? with
     | none=>rw[e] at hv;cases hv
     | some y=>rw[e] at hv;show⟨y,rfl,(yl hv).symm⟩
    have hm:m<(ss.drop (i+1)).length:=(yc.mp gy).1;apply qbB ?_;apply vIxAt (L _ _ (Y _ _ hn)) gx ?_;apply⟨wq1,λu bg=>?_⟩;have g:=qF (Sr H') (o:=.tup [.str x,.str y]) bg;have eu:upd H' u (.tup [.str x,.str y]) u=some (.tup [.str x,.str y]):=qc;generalize upd H' u (.tup [.str x,.str y])=H5 at g eu ⊢;show⟨by rw[ya,R];show qk (by lk),L.trans g,us++[u],by rw[yD];rfl,by rw[yx,R];rfl,?_⟩;rw[yT,gy,yD];show(N.mono λt C z=>g _ _ z).snoc eu
   .obtain⟨L,us,rfl,R,N⟩:=B;rw[ya] at R N;rw[Ye] at N;show⟨by rw[ya,R];show Ym (qk (by lk)),λe he=>?_⟩;have g:=qF (Sr H4) (o:=.lst (us.map V.ref)) he;have ee:upd H4 e (.lst (us.map V.ref)) e=some (.lst (us.map V.ref)):=qc;replace N:=N.mono (S:=λt C=>upd H4 e (.lst (us.map V.ref)) t=some (.tup [.str C.1,.str C.2])) λt C z=>g _ _ z;have s5:=Y.trans (L.trans g);replace p:=p.same (L.trans g);generalize upd H4 e (.lst (us.map V.ref))=H5 at s5 ee N p ⊢;clear L g;have bf:=p.2.len;have l4:(ss.drop (i+1)).map (λy=>(x,y))=(ss.drop (i+1)).map λy=>(x,y):=rfl;apply⟨l,e,_,_,rfl,rfl,p.1,ee,yh (show _<=1000 by rw[ya,ya,R];lk) (by decide),?_⟩;rw[<- yD];show⟨qe9 s5 hl,ts++us,_,_,rfl,p.put (p.2.app N),?_,?_,λC ai=>?_⟩
    .rw [yx,ya];lk
    .show xL.mpr ⟨nd,?_,λC h cd h2 e=>?_⟩
     .show List.Pairwise.map (λy=>(x,y)) (λa b h e=>h (congrArg Prod.snd e)) (hO.nd.sublist (List.drop_sublist _ _))
     .subst e;obtain⟨j,k,h1,ax,h3,h4⟩:=ok _ h;obtain⟨y,_,rfl⟩:=yK.mp h2;have e1:j=i:=qz hO.nd ax gx;lk
    .rcases Yj.mp ai with h | h
     .obtain⟨j,k,h1,h2,h3,h4⟩:=ok C h;show⟨j,k,h1,h2,h3,by lk⟩
     .obtain⟨y,hy,rfl⟩:=yK.mp h;obtain⟨k,Z⟩:=XF hy;rw[ki] at Z;show⟨i,i+1+k,by lk,gx,Z,by lk⟩
  .obtain⟨s2,ts,A,x3,rfl,p,bi,nd,ok⟩:=B;have bf:=p.2.len;have bq:A.length<=196:=by lk
   apply qbG p.1 ?_;rw[ya];apply⟨_,_,rfl,?_⟩
   obtain⟨m,hm,bv,mL⟩:∃ m:Nat,(if (ts.length:Int)<30 then(ts.length:Int) else 30)=(m:Int)/\m<=30/\m<=ts.length:=by
    split
    .show⟨ts.length,rfl,by lk,yg _⟩
    .show⟨30,rfl,by lk,by lk⟩
   rw[hm];apply⟨wq0,λb1 ay=>?_⟩;have G:=qF (Sr H2) (o:=.lst [.int ((m:Int)+1)]) ay;have M:upd H2 b1 (.lst [.int ((m:Int)+1)]) b1=some (.lst [.int ((m:Int)+1)]):=qc;replace p:=p.same G;have Y:=s2.trans G;generalize upd H2 b1 (.lst [.int ((m:Int)+1)])=H3 at Y M p ⊢;clear G s2;apply⟨m,rfl,by lk,by lk,qbb (lo:=0) (λi ys H'=>L2.Same H3 H'/\ys=((List.range i).map λk:Nat=>(2*((ts.length:Int)-(k:Int)))).map V.int) ⟨L2.Same.refl H3,rfl⟩ (λi ys H' hi B=>?_) λys H4 B=>?_⟩
   .obtain⟨L,rfl⟩:=B;apply qbB ?_;apply qbG (L _ _ p.1) ?_;rw[ya];ext;rw[kN];show qeB (.inl ⟨by decide,by decide⟩) ?_;have hi:i<m:=by lk
    show⟨by rw[ya,ya,xu];show qk (by lk),L,?_⟩;rw[xX,yD,yD];rfl
   .obtain⟨L,rfl⟩:=B;rw[Yz];show⟨by rw[ya,ya,xu];show Ym (qk (by lk)),λb2 az=>?_⟩;generalize aj:((List.range m).map λk:Nat=>(2*((ts.length:Int)-(k:Int))))=bs;have g:=qF (Sr H4) (o:=.lst (bs.map V.int)) az;have ag:upd H4 b2 (.lst (bs.map V.int)) b2=some (.lst (bs.map V.int)):=qc;replace p:=p.same (L.trans g);replace M:=(L.trans g) _ _ M;have s5:=Y.trans (L.trans g);generalize upd H4 b2 (.lst (bs.map V.int))=H5 at s5 M ag p ⊢;clear g L Y;have ap:bs.length=m:=by rw[<- aj,ya,xu]
    show .inl ⟨b1,b2,_,_,rfl,rfl,M,ag,yh (show _<=1000 by rw[ya,ap];show 1+m<=1000;lk) (by decide),λb3 ba=>?_⟩;have e3:[V.int ((m:Int)+1)]++bs.map V.int=(((m:Int)+1)::bs).map V.int:=rfl;rw[e3];have D:=qF (Sr H5) (o:=.lst ((((m:Int)+1)::bs).map V.int)) ba;have ah:upd H5 b3 (.lst ((((m:Int)+1)::bs).map V.int)) b3=some (.lst ((((m:Int)+1)::bs).map V.int)):=qc;replace p:=p.same D;have s6:=s5.trans D;generalize upd H5 b3 (.lst ((((m:Int)+1)::bs).map V.int))=H6 at s6 ah p ⊢;clear D s5 e3 M ag;apply⟨b3,_,_,((m:Int)+1)::bs,rfl,ah,by decide,by decide,by rw[Yb];lk,λx hx=>?_,λnl ns H7 al bp O W ar=>?_⟩
    .rcases yt.mp hx with rfl | hx
     .omega
     .rw [<- aj] at hx;obtain⟨k,Z,rfl⟩:=yK.mp hx;have:=Xd.mp Z;lk
    replace p:=p.same al;have s7:=s6.trans al;clear s6 ah;apply⟨by decide,λI ak=>?_⟩;have ac:=qF (Sr H7) (o:=.lst []) ak;have f8:PL (upd H7 I (.lst [])) I [] []:=⟨qc,All2.nil⟩;have as:l≠I:=qq p.1 ak;have ae:H I=none:=s7.free ak;replace p:=p.same ac;replace O:=ac _ _ O;have s8:=s7.trans ac;generalize upd H7 I (.lst [])=H8 at s8 f8 p O ⊢;clear ac s7 al;apply vIxN (b:=(m:Int)+1) O W ar (by decide) rfl λn0 bj bw=>?_;obtain⟨k0,rfl⟩:=xD bj;apply .inl ⟨nl,_,rfl,SqL.of O,λc1 U=>?_⟩;rw[Yb,ap] at W;have am:((1+k0:Nat):Int)=1+(k0:Int):=by lk
    have af:∀(i:Nat) v,(qbm (ns.map V.int) (some 1) (some (1+(k0:Int))))[i]?=some v->∃ x:Int,v=.int x/\0<=x/\x<2*((ts.length:Int)-i)/\i<k0:=λi v hv=>by
     have bh:(qbm (ns.map V.int) (some ((1:Nat):Int)) (some ((1+k0:Nat):Int)))[i]?=some v:=by rw[am];show hv
     obtain⟨h1,h2⟩:=cut_at (by rw[ya,W];lk) bh;rw[yd] at h1
     cases e:ns[1+i]? with
     | none=>rw[e] at h1;cases h1
     | some x =>
      rw[e] at h1;cases h1;have hi:i<m:=by lk
      have eb:(((m:Int)+1)::bs)[1+i]?=some (2*((ts.length:Int)-i)):=by
       rw[Nat.add_comm 1 i,List.getElem?_cons_succ,<- aj,yd,List.getElem?_range hi];rfl
      obtain⟨r1,r2⟩:=ar _ _ _ e eb;show⟨x,rfl,r1,r2,by lk⟩
    generalize qbm (ns.map V.int) (some 1) (some (1+(k0:Int)))=cs at af ⊢
    have cl:cs.length<=k0:=by
     show Nat.le_of_not_lt λh=>?_;obtain⟨x,_,_,_,z⟩:=af k0 _ (yb h);lk
    have ad:=qF (Sr H8) (o:=.lst cs) U;have ec:upd H8 c1 (.lst cs) c1=some (.lst cs):=qc;have bn:c1≠l:=λe=>by rw[e,p.1] at U;cases U
    have bm:c1≠I:=λe=>by rw[e,f8.1] at U;cases U
    replace p:=p.same ad;replace f8:=f8.same ad;have s9:=s8.trans ad;generalize upd H8 c1 (.lst cs)=H9 at s9 f8 p ec ⊢;clear ad s8 O;apply .inl ⟨⟨_,SqL.of ec⟩,zw (K:=K) (λi σ H'=>L2.Same H H'/\H' c1=some (.lst cs)/\∃(us vs:LX) (r tps ups:LS) (x8 x9 X:Option V),σ=[some (.ref n),some (.int c),some (.ref l),x3,some (.int (m:Int)),some (.ref b3),some (.ref nl),some (.ref I),x8,x9,X]/\PL H' l us r/\PL H' I vs ups/\us.length+i=ts.length/\vs.length=i/\All2 (λa b=>b=a\/b=(a.2,a.1)) tps ups/\(tps++r).Perm A)
     ⟨s9,ec,ts,[],A,[],[],none,none,none,rfl,p,f8,rfl,rfl,All2.nil,.refl _⟩ (λi σ H' _ B=>SqL.of B.2.1) (λi v σ J hv B=>?_) fun σ J B=>?_⟩
    .obtain⟨sJ,eJ,us,vs,r,tps,ups,x8,x9,X,rfl,tJ,fJ,lJ,lV,N,hP⟩:=B;obtain⟨x,rfl,x0,x1,ik⟩:=af i v hv;have bt:=tJ.2.len;obtain⟨s,bd⟩:∃ s:Nat,x / 2=(s:Int):=⟨(x / 2).toNat,by lk⟩;have Z:s<us.length:=by lk
     have aq:s<r.length:=by lk
     apply vAsgT ?_;apply⟨.inl ⟨rfl,_,SqL.of tJ.1⟩,?_⟩;apply vI ⟨by decide,by decide⟩ ?_;rw[bd];ext;have gk:(us.map V.ref)[s]?=some (.ref us[s]):=by rw[yd,yb Z];rfl
     show⟨l,_,_,s,_,rfl,rfl,tJ.1,by lk,by lk,(qde (qds (by rw[ya];show Z))).1,gk,?_⟩;have pk:=tJ.2.at_ s us[s] r[s] (yb Z) (yb aq);have ao:=qb5 r s aq;rw[qc3];have t3:PL (upd J l (.lst ((us.eraseIdx s).map V.ref))) l (us.eraseIdx s) (r.eraseIdx s):=tJ.put (tJ.2.erase s);have f3:=fJ.other (ys:=(us.eraseIdx s).map V.ref) as.symm tJ.1;have p3:upd J l (.lst ((us.eraseIdx s).map V.ref)) us[s]=some (.tup [.str r[s].1,.str r[s].2]):=by rw[qh (jx pk tJ.1 (by intro z;cases z))];show pk
     have c3:upd J l (.lst ((us.eraseIdx s).map V.ref)) c1=some (.lst cs):=by rw[qh bn];show eJ
     have Y:=qe9 (o:=.lst ((us.eraseIdx s).map V.ref)) sJ hl;have bo:(us.eraseIdx s).length=us.length-1:=List.length_eraseIdx_of_lt Z;generalize upd J l (.lst ((us.eraseIdx s).map V.ref))=J3 at t3 f3 p3 c3 Y ⊢;generalize r[s]=C at p3 ao;obtain⟨a,b⟩:=C;show⟨_,_,rfl,SqT.of p3,rfl,_,_,rfl,_,_,rfl,rfl,?_⟩;apply⟨.inl ⟨rfl,_,SqL.of f3.1⟩,?_⟩;apply⟨wq1,λu1 h1=>?_⟩;have au:=qF (Sr J3) (o:=.tup [.str a,.str b]) h1;have e1:upd J3 u1 (.tup [.str a,.str b]) u1=some (.tup [.str a,.str b]):=qc;generalize upd J3 u1 (.tup [.str a,.str b])=J4 at au e1 ⊢;apply⟨wq1,λu2 h2=>?_⟩;have g:=qF (Sr J4) (o:=.tup [.str b,.str a]) h2;have e2:upd J4 u2 (.tup [.str b,.str a]) u2=some (.tup [.str b,.str a]):=qc;generalize upd J4 u2 (.tup [.str b,.str a])=J5 at g e2 ⊢;apply⟨wq1,λw1 h3=>?_⟩;have D:=qF (Sr J5) (o:=.lst [.ref u1,.ref u2]) h3;have e3:upd J5 w1 (.lst [.ref u1,.ref u2]) w1=some (.lst [.ref u1,.ref u2]):=qc;generalize upd J5 w1 (.lst [.ref u1,.ref u2])=J6 at D e3 ⊢;have aa:=au.trans (g.trans D);apply vI (by decide) ?_;have r1:=yY x (show(2:Int)≠0 by decide);have r2:=yR x (show(0:Int)<2 by decide)
     have an:∀(y8 y9 av:Option V) (u:Addr) (cd:Str×Str),J6 u=some (.tup [.str cd.1,.str cd.2])->(cd=(a,b)\/cd=(b,a))->rAppend (.ref I) [.ref u] J6 λ_ J7=>L2.Same H J7/\J7 c1=some (.lst cs)/\∃(us vs:LX) (r tps ups:LS) (x8 x9 X:Option V),[some (.ref n),some (.int c),some (.ref l),x3,some (.int (m:Int)),some (.ref b3),some (.ref nl),some (.ref I),y8,y9,av]=[some (.ref n),some (.int c),some (.ref l),x3,some (.int (m:Int)),some (.ref b3),some (.ref nl),some (.ref I),x8,x9,X]/\PL J7 l us r/\PL J7 I vs ups/\us.length+(i+1)=ts.length/\vs.length=i+1/\All2 (λa b=>b=a\/b=(a.2,a.1)) tps ups/\(tps++r).Perm A:=λy8 y9 av u cd hu bb=>by
      have f6:=f3.same aa;have t6:=t3.same aa;show⟨I,_,_,rfl,rfl,f6.1,by rw[ya,lV];show qk (by lk),?_⟩;rw[show vs.map V.ref++[V.ref u]=(vs++[u]).map V.ref by rw[yD];rfl];show⟨qe9 (Y.trans aa) ae,by rw[qh bm];show aa _ _ c3,us.eraseIdx s,vs++[u],r.eraseIdx s,tps++[(a,b)],ups++[cd],_,_,_,rfl,t6.other as f6.1,f6.put (f6.2.snoc hu),by lk,by rw[yx,lV];rfl,N.snoc bb,?_⟩;rw[xK];show(List.Perm.append_left tps ao).trans hP
     have be:x % 2=0\/x % 2=1:=by lk
     rcases be with e | e
     .rw [e];show .inl (qbF (v:=.ref u1) e3 (qW (j:=0) rfl) (an _ _ _ u1 (a,b) (D _ _ (g _ _ e1)) (.inl rfl)))
     .rw [e];show .inl (qbF (v:=.ref u2) e3 (qW (j:=1) rfl) (an _ _ _ u2 (b,a) (D _ _ e2) (.inr rfl)))
    .obtain⟨sJ,eJ,us,vs,r,tps,ups,x8,x9,X,rfl,tJ,fJ,lJ,lV,N,hP⟩:=B;ext;have br:=N.len;have bu:=fJ.2.len;show q I vs tps ups J sJ ae fJ ⟨by lk,λC ai=>?_,?_⟩ ⟨ups,.refl _,N⟩
     .obtain⟨j,k,h1,h2,h3,_⟩:=ok C (hP.subset (YO _ ai));show⟨j,k,h1,h2,h3⟩
     .show(xL.mp (hP.nodup_iff.mpr nd)).1
theorem uV:FnScope wqv wqv (qd qbr):=fS
def tiB(ups:LS)(a b:Str):Bool:=decide ((a,b)∈ups)||decide ((b,a)∈ups)
def qhM:Sp:=λvs H Q _=>∃(l:Addr) (ts:LX) (ups:LS) (a b:Str),vs=[.ref l,.str a,.str b]/\PL H l ts ups/\∀ H',L2.Same H H'->Q (.bl (tiB ups a b)) H'
theorem ok_tdB(F:Fun K "_law_tied" "_law_tied" qbr f fd):wqY 1 f fd wqv qhM:=by
 show F.ok uV (λvs H Q E h=>?_) λ_ _ _ _ H vs Q E n h=>?_
 .obtain⟨l,ts,ups,a,b,rfl,_⟩:=h;rfl
 .obtain⟨l,ts,ups,a,b,rfl,hl,q⟩:=h;have m:=zT n;unfold tiB at q;show⟨_,(qf (qm (pe_or (zx (qdm (K:=K) rfl m) (qV (qa (pv 1) (qa (pv 2) qb))) (pv 0) (by with_unfolding_all rfl)) (qbX (zx (qdm (K:=K) rfl m) (qV (qa (pv 2) (qa (pv 1) qb))) (pv 0) (by with_unfolding_all rfl)))))),?_⟩;apply⟨wq1,λt p=>?_⟩;have c:=qF (Sr H) (o:=.tup [.str a,.str b]) p;have i:upd H t (.tup [.str a,.str b]) t=some (.tup [.str a,.str b]):=qc;generalize upd H t (.tup [.str a,.str b])=H1 at c i ⊢;apply qgQ (hl.same c) i ?_;apply qU (λh=>?_) λh=>?_
  .rw [h] at q;show q _ c
  .have h:decide ((a,b)∈ups)=false:=by simpa using h
   rw[h] at q;apply⟨wq1,λg d=>?_⟩;have e:=qF c (o:=.tup [.str b,.str a]) d;have j:upd H1 g (.tup [.str b,.str a]) g=some (.tup [.str b,.str a]):=qc;generalize upd H1 g (.tup [.str b,.str a])=H2 at e j ⊢;apply qgQ (hl.same e) j ?_;show q _ e
theorem KJ:FnScope wqi wqi (qd j6):=fS
theorem KQ:FnScope wh wh (qd jt):=fS
theorem uw:FnScope wh wh (qd zK):=fS
theorem ux:FnScope wh wh (qd zL):=fS
def PlayAt(cp cw:Addr)(H:Hp)(x b p:Addr)(ss:LN)(ns:LQ)(tr:LN):Prop:=∃ dx,H x=some (.ins cp dx (qZ "path" (.ref p) (qZ "board" (.ref b) [])))/\H p=some (.lst (tr.map V.str))/\WebAt cw H b ss ns
theorem PlayAt.same(h:PlayAt cp cw H x b p ss ns tr)(s:L2.Same H H'):PlayAt cp cw H' x b p ss ns tr:=by
 obtain⟨dx,h1,a,c⟩:=h;show⟨dx,s _ _ h1,s _ _ a,c.same s⟩
theorem qaD:List.lookup ("path":Str) (qZ "path" (V.ref p) (qZ "board" (V.ref b) []))=some (V.ref p):=by rw[qo,yB rfl]
theorem qcp:List.lookup ("board":Str) (qZ "path" (V.ref p) (qZ "board" (V.ref b) []))=some (V.ref b):=by rw[qo,yw (by room),qo,yB rfl]
theorem WebAt.but{fs:List (Str×V)}(h:WebAt cw H b ss ns)(a:H x=some (.ins c dx fs))(j:b≠x)(k:But x H H'):WebAt cw H' b ss ns:=by
 obtain⟨l,d,ol,n,h1,e,f,g,i⟩:=h;show⟨l,d,ol,n,k _ _ j h1,k _ _ (jx e a (by intro z;cases z)) e,k _ _ (jx f a (by intro z;cases z)) f,k _ _ (jx g a (by intro z;cases z)) g,i⟩
def qeX(cc:Nat->Addr)(cw:Addr):Sp:=λvs H Q _=>∃(x dx b:Addr) (st:Str) (ss:LN) (ns:LQ),vs=[.ref x,.ref b,.str st]/\H x=some (.ins (cc 10) dx [])/\WebAt cw H b ss ns/\st∈ss/\∀(p:Addr) (H':Hp),But x H H'->H p=none->PlayAt (cc 10) cw H' x b p ss ns [st]->Q .non H'
theorem ok_wkI(F:Fun K "__init__" "Walk.__init__" j6 f fd)(T:Txt K mg cc cw)(C:wqX 3 cw "has_place" wqq (qeR cw)):wqY 5 f fd wqi (qeX cc cw):=by
 show F.ok KJ (λvs H Q E h=>?_) λ_ _ _ _ H vs Q E A h=>?_
 .obtain⟨x,dx,b,st,ss,ns,rfl,_⟩:=h;rfl
 .obtain⟨x,dx,b,st,ss,ns,rfl,t,r,j,q⟩:=h;have I:=zT A;show⟨_,(qe (jf (jQ (jg (jo C (hmR A) (pv 1) (qa (pv 2) qb)))) (qf qdA) qu)
 (qe (ju (K:=K) rfl (pv 0) (pv 1) rfl)
 (qf (ju (K:=K) rfl (pv 0) (qy (qa (pv 2) qb)) rfl)))),?_⟩
  obtain⟨D,d,ol,n,hb,_,_,_,hw⟩:=id r;have g:=hw.nm _ j;have u:b≠x:=λe=>by subst e;rw[t] at hb;injection hb with hb;injection hb with _ _ hb;cases hb
  apply⟨b,D,_,rfl,hb,qau (by room),?_⟩;apply⟨x,0,b,ss,ns,.str st,rfl,r,Th.flat rfl (λz e=>by cases e;have:=j5 g;lk),λH1 B=>?_⟩;rw[j0 j g];apply yo ?_;apply .inl ⟨x,cc 10,dx,[],rfl,B _ _ t,T.pcl,T.pb,by decide,?_⟩;have m:=((But.refl x H).same B).put (o:=.ins (cc 10) dx (qZ "board" (.ref b) []));have a:upd H1 x (.ins (cc 10) dx (qZ "board" (.ref b) [])) x=some (.ins (cc 10) dx (qZ "board" (.ref b) [])):=qc;generalize upd H1 x (.ins (cc 10) dx (qZ "board" (.ref b) []))=H2 at m a ⊢;apply⟨wq0,λp i=>?_⟩;have c:p≠x:=λe=>by rw[e,a] at i;cases i
  have s:H p=none:=by
   cases e:H p with
   | none=>rfl
   | some o=>rw[m p o c e] at i;cases i
  have v:=m.new (o:=.lst [.str st]) i;have l:upd H2 p (.lst [.str st]) x=some (.ins (cc 10) dx (qZ "board" (.ref b) [])):=by rw[qh c.symm];show a
  have ep:upd H2 p (.lst [.str st]) p=some (.lst [.str st]):=qc;generalize upd H2 p (.lst [.str st])=G at v l ep ⊢;apply .inl ⟨x,cc 10,dx,_,rfl,l,T.pcl,T.pp,YG (jI _ _ _) (by decide),?_⟩;have y:=v.put (o:=.ins (cc 10) dx (qZ "path" (.ref p) (qZ "board" (.ref b) [])));show q p _ y s ⟨dx,qc,by rw[qh c];show ep,r.but t u y⟩
def qhm(cc:Nat->Addr)(cw:Addr):Sp:=λvs H Q _=>∃(x b p:Addr) (ss:LN) (ns:LQ) (tr:LN) (z:Str),vs=[.ref x]/\PlayAt (cc 10) cw H x b p ss ns tr/\tr.getLast?=some z/\Q (.str z) H
def qhN(cc:Nat->Addr)(cw:Addr):Sp:=λvs H Q _=>∃(x b p:Addr) (ss:LN) (ns:LQ) (tr:LN),vs=[.ref x]/\PlayAt (cc 10) cw H x b p ss ns tr/\∀ l,H l=none->Q (.ref l) (upd H l (.lst (tr.map V.str)))
def qhn(cc:Nat->Addr)(cw:Addr):Sp:=λvs H Q _=>∃(x b p:Addr) (ss:LN) (ns:LQ) (tr:LN),vs=[.ref x]/\PlayAt (cc 10) cw H x b p ss ns tr/\Q (.int (((tr.length:Int)-1) % 2)) H
theorem qdv{xs:LN}(h:xs.getLast?=some z):atI (xs.map V.str) (-1)=some (.str z):=by
 have e:(xs.map V.str).getLast?=some (.str z):=by rw[List.getLast?_map,h];rfl
 rw[List.getLast?_eq_getElem?] at e;have hl:=(yc.mp e).1;unfold atI ixN;rw[yw (by decide),yB (by lk)];have a:(-1+((xs.map V.str).length:Int)).toNat=(xs.map V.str).length-1:=by lk
 show(xs.map V.str)[(-1+((xs.map V.str).length:Int)).toNat]?=_;rw[a];show e
theorem ok_ps(F:Fun K "stands_at" "Walk.stands_at" jt f fd)(T:Txt K mg cc cw):wqY 1 f fd wh (qhm cc cw):=by
 show F.ok KQ (λvs H Q E h=>?_) λ_ _ _ _ H vs Q E c h=>?_
 .obtain⟨x,b,p,ss,ns,tr,z,rfl,_⟩:=h;rfl
 .obtain⟨x,b,p,ss,ns,tr,z,rfl,⟨dx,e,a,i⟩,g,q⟩:=h;have d:=zT c;show⟨_,(qf (qm (qG (qH (K:=K) rfl d) (qK (K:=K) rfl (pv 0) rfl) (qcb qaH qg) (λ_ _=>rfl)))),?_⟩;apply .inl ⟨x,cc 10,dx,_,.ref p,rfl,e,T.pcl,T.pp,qaD,?_⟩;apply vU ?_;show .inl (qbF a (qdv g) q)
theorem ok_pgn(F:Fun K "gone" "Walk.gone" zK f fd)(T:Txt K mg cc cw):wqY 1 f fd wh (qhN cc cw):=by
 show F.ok uw (λvs H Q E h=>?_) λ_ _ _ _ H vs Q E e h=>?_
 .obtain⟨x,b,p,ss,ns,tr,rfl,_⟩:=h;rfl
 .obtain⟨x,b,p,ss,ns,tr,rfl,⟨dx,c,a,d⟩,q⟩:=h;show⟨_,(qf (qm (zr (qdn (K:=K) rfl rfl) rfl T.b_list XA (qa (qK (K:=K) rfl (pv 0) rfl) qb)))),?_⟩;apply .inl ⟨x,cc 10,dx,_,.ref p,rfl,c,T.pcl,T.pp,qaD,?_⟩;apply .inl ⟨p,_,rfl,.inl (SqL.of a),q⟩
theorem ok_ph(F:Fun K "hand" "Walk.hand" zL f fd)(T:Txt K mg cc cw):wqY 1 f fd wh (qhn cc cw):=by
 show F.ok ux (λvs H Q E h=>?_) λ_ _ _ _ H vs Q E e h=>?_
 .obtain⟨x,b,p,ss,ns,tr,rfl,_⟩:=h;rfl
 .obtain⟨x,b,p,ss,ns,tr,rfl,⟨dx,c,a,d⟩,q⟩:=h;show⟨_,(qf (qm (qD jH (qD qfq (qi (zo (K:=K) rfl) rfl T.b_len YH (qa (qK (K:=K) rfl (pv 0) rfl) qb)) qg) qg))),?_⟩;apply .inl ⟨x,cc 10,dx,_,.ref p,rfl,c,T.pcl,T.pp,qaD,?_⟩;apply qbG a ?_;rw[ya];apply vI (by decide) q
theorem Kv:FnScope wqq wqq (qd jk):=fS
theorem uy:FnScope wh wh (qd zM):=fS
theorem um:FnScope wh wh (qd zh):=fS
theorem KW:FnScope wqH wqH (qd qY):=fS
theorem K3:FnScope wql wql (qd qaf):=fS
def ngS(tr xs:LN):LN:=xs.filter λo=>!decide (o∈tr)
def mvS(ss:LN)(ns:LQ)(tr:LN)(z:Str):LN:=ngS tr (inB ss 0 (ns.getD (ss.idxOf z) 0))
def qho(cc:Nat->Addr)(cw:Addr):Sp:=λvs H Q _=>∃(x b p l:Addr) (ss:LN) (ns:LQ) (tr xs:LN),vs=[.ref x,.ref l]/\PlayAt (cc 10) cw H x b p ss ns tr/\H l=some (.lst (xs.map V.str))/\xs.length<=14/\∀ r,H r=none->Q (.ref r) (upd H r (.lst ((ngS tr xs).map V.str)))
def qgR(cc:Nat->Addr)(cw:Addr):Sp:=λvs H Q _=>∃(x b p:Addr) (ss:LN) (ns:LQ) (tr:LN) (z:Str),vs=[.ref x]/\PlayAt (cc 10) cw H x b p ss ns tr/\tr.getLast?=some z/\z∈ss/\∀(r:Addr) (H':Hp),L2.Same H H'->H r=none->H' r=some (.lst ((mvS ss ns tr z).map V.str))->Q (.ref r) H'
def qeY(cc:Nat->Addr)(cw:Addr):Sp:=λvs H Q _=>∃(x b p:Addr) (ss:LN) (ns:LQ) (tr:LN) (z v:Str),vs=[.ref x,.str v]/\PlayAt (cc 10) cw H x b p ss ns tr/\tr.length<=100/\tr.getLast?=some z/\z∈ss/\v∈mvS ss ns tr z/\∀ H',But p H H'->H' p=some (.lst ((tr++[v]).map V.str))->Q .non H'
theorem qR{f:Str}{p b:V}(h:(f=="path"||f=="board")=false:=by room):List.lookup f (qZ "path" p (qZ "board" b []))=none:=by
 simp only[Bool.or_eq_false_iff,yZ] at h;rw[qo,yw h.1,qo,yw h.2];rfl
theorem ok_ng(F:Fun K "not_gone" "Play.not_gone" qY f fd)(T:Txt K mg cc cw):wqY 1 f fd wqH (qho cc cw):=by
 show F.ok KW (λvs H Q E h=>?_) λ_ _ _ _ H vs Q E r h=>?_
 .obtain⟨x,b,p,l,ss,ns,tr,xs,rfl,_⟩:=h;rfl
 .obtain⟨x,b,p,l,ss,ns,tr,xs,rfl,⟨dx,t,g,v⟩,hl,few,q⟩:=h;have s:=zT r;show⟨_,(qf (qm (zC (sc:=qd qY) (XN:=wqH) ["name","self"] 1 [0] rfl rfl rfl (by room) rfl (by room)
  (jR (K:=K) rfl (pv 1)) (λ_ _ _ _=>(qr (i:=0) (show(["name","self"]:LN).Nodup by room) rfl (yJ rfl))) zn
  (λ_ _ _ _=>(qaO (qw (qaU (K:=K) rfl s) (pv 0) (qK (K:=K) rfl (pv 1) rfl) (by with_unfolding_all rfl))))
  (λ_ _ _ _=>(pv 0))))),?_⟩
  apply .inl ⟨⟨_,SqL.of hl⟩,zt (K:=K) (λm ys H'=>H'=H/\ys=(ngS tr (xs.take m)).map V.str) ⟨rfl,rfl⟩ (λm ys H' _ g=>by rw[g.1];show SqL.of hl) (λm y ys H' u a=>?_) λys H' a=>?_⟩
  .obtain⟨rfl,rfl⟩:=a;obtain⟨o,n,rfl⟩:=qaC u;have j:xs.take (m+1)=xs.take m++[o]:=by rw[yT,n];rfl
   have c:((ngS tr (xs.take m)).map V.str).length<sizeLine:=by
    rw[ya];show qk (yh (YC _ _) (by rw[Yc];lk))
   have d:ngS tr (xs.take (m+1))=ngS tr (xs.take m)++(if (!decide (o∈tr))=true then [o] else []):=by
    unfold ngS;rw[j,Ys,xT];rfl
   rw[d,yD];apply .inl ⟨x,cc 10,dx,_,.ref p,rfl,t,T.pcl,T.pp,qaD,?_⟩;show .inl ⟨p,_,rfl,.inl (SqL.of g),rfl,zu _,?_⟩;rw[qaB];apply qU (λh=>?_) λh=>?_
   .ext;show⟨c,rfl,?_⟩;have h:(!decide (o∈tr))=true:=h;rw[yB h];rfl
   .show⟨rfl,?_⟩;have h:¬ (!decide (o∈tr))=true:=h;rw[yw h];simp
  .obtain⟨rfl,rfl⟩:=a;have e:xs.take (xs.map V.str).length=xs:=by rw[ya,Ye]
   rw[e];show⟨by rw[ya];show Ym (qk (yh (YC _ _) (by lk))),q⟩
theorem ok_pm(F:Fun K "moves" "Play.moves" zh f fd)(T:Txt K mg cc cw)(D:wqX 6 cw "beside" wqm (λvs H Q _=>qhk cc cw vs H Q E0))(B:wqX 1 (cc 10) "stands_at" wh (qhm cc cw))(C:wqX 1 (cc 10) "not_gone" wqH (qho cc cw)):wqY 7 f fd wh (qgR cc cw):=by
 show F.ok um (λvs H Q E h=>?_) λ_ _ _ _ H vs Q E i h=>?_
 .obtain⟨x,b,p,ss,ns,tr,z,rfl,_⟩:=h;rfl
 .obtain⟨x,b,p,ss,ns,tr,z,rfl,s,L,a,q⟩:=h;obtain⟨dx,u,O,A⟩:=id s;have R:=zT i;show⟨_,(qf (qm (jo C (hmR i) (pv 0) (qa (jo D (hmR i) (qK (K:=K) rfl (pv 0) rfl) (qa (qv B (hmR i) (pv 0)) qb)) qb)))),?_⟩;obtain⟨N,d,ol,n,hb,_,_,_,hw⟩:=id A;have c:=hw.nm _ a;have t:ss[ss.idxOf z]?=some z:=by rw[yb (YI a)];show congrArg some (YM _)
  apply⟨x,dx,_,rfl,u,qR,?_⟩;apply .inl ⟨x,cc 10,dx,_,.ref b,rfl,u,T.pcl,T.pb,qcp,?_⟩;apply⟨b,N,_,rfl,hb,qau (by room),?_⟩;apply⟨x,dx,_,rfl,u,qR,?_⟩;apply⟨x,b,p,ss,ns,tr,z,rfl,s,L,?_⟩;apply⟨x,0,b,ss,ns,.str z,rfl,A,Th.flat rfl (λz e=>by cases e;have:=j5 c;lk),(λe=>by rw[j0 a c] at e;cases e),λj J _ H1 M l hl=>?_⟩;have G:j=ss.idxOf z:=qz hw.nd J t;subst G;have v:=qF (Sr H1) (o:=.lst ((inB ss 0 (ns.getD (ss.idxOf z) 0)).map V.str)) hl;have y:upd H1 l (.lst ((inB ss 0 (ns.getD (ss.idxOf z) 0)).map V.str)) l=some (.lst ((inB ss 0 (ns.getD (ss.idxOf z) 0)).map V.str)):=qc;have m:=M.trans v;generalize upd H1 l (.lst ((inB ss 0 (ns.getD (ss.idxOf z) 0)).map V.str))=H2 at m y ⊢;have few:=hw.few;have I:(inB ss 0 (ns.getD (ss.idxOf z) 0)).length<=ss.length:=qbM _ _ _;apply⟨x,b,p,l,ss,ns,tr,_,rfl,s.same m,y,by lk,λr g=>?_⟩;show q r _ (qF m g) (m.free g) qc
theorem ok_mvt(F:Fun K "move_to" "Walk.move_to" jk f fd)(T:Txt K mg cc cw)(s:wqX 7 (cc 10) "moves" wh (qgR cc cw)):wqY 8 f fd wqq (qeY cc cw):=by
 show F.ok Kv (λvs H Q E h=>?_) λ_ _ _ _ H vs Q E i h=>?_
 .obtain⟨x,b,p,ss,ns,tr,z,v,rfl,_⟩:=h;rfl
 .obtain⟨x,b,p,ss,ns,tr,z,v,rfl,e,l,o,d,hv,q⟩:=h;obtain⟨dx,j,g,t⟩:=id e;have n:=zT i;show⟨_,(qe (jf (qw (qaU (K:=K) rfl n) (pv 1) (qv s (hmR i) (pv 0)) (by with_unfolding_all rfl)) (qf qdA) qu)
 (qf (qB (qeb (K:=K) rfl yH Yh Yi jw (qK (K:=K) rfl (pv 0) rfl) (qa (pv 1) qb))))),?_⟩
  apply⟨x,dx,_,rfl,j,qR,?_⟩;apply⟨x,b,p,ss,ns,tr,z,rfl,e,o,d,λr H1 a m c=>?_⟩;show .inl ⟨r,_,rfl,.inl (SqL.of c),rfl,zu _,?_⟩;rw[qaB];apply qU (λh=>?_) λ_=>?_
  .have h:(!decide (v∈mvS ss ns tr z))=true:=h;rw[yL hv] at h;cases h
  apply .inl ⟨x,cc 10,dx,_,.ref p,rfl,a _ _ j,T.pcl,T.pp,qaD,?_⟩;apply⟨.inl ⟨rfl,_,SqL.of (a _ _ g)⟩,?_⟩;apply⟨p,_,_,rfl,rfl,a _ _ g,by rw[ya];show qk (by lk),?_⟩;show q _ ((But.refl p H).same a).put (by rw[qc,yD];rfl)
theorem ok_pgo(F:Fun K "go" "Play.go" qaf f fd)(T:Txt K mg cc cw)(e:wqX 8 (cc 10) "move_to" wqq (qeY cc cw)):wqY 9 f fd wql (qeY cc cw):=by
 show F.ok K3 (λvs H Q E h=>?_) λ_ _ _ _ H vs Q E g h=>?_
 .obtain⟨x,b,p,ss,ns,tr,z,v,rfl,_⟩:=h;rfl
 .obtain⟨x,b,p,ss,ns,tr,z,v,rfl,d,a,j,c,hv,q⟩:=h;obtain⟨dx,i,m,l⟩:=id d;show⟨_,(qf (qB (jo e (hmR g) (pv 0) (qa (pv 1) qb)))),?_⟩;apply⟨x,dx,_,rfl,i,qR,?_⟩;apply⟨x,b,p,ss,ns,tr,z,v,rfl,d,a,j,c,hv,q⟩
theorem KY:FnScope wh wh (qd jE):=fS
theorem KZ:FnScope wh wh (qd jF):=fS
theorem qd4:∀{l m:LS},l.Nodup->(∀ x∈l,x∈m)->l.length<=m.length
 | [],_,_,_=>YX _
 | x::r,m,hn,h=>by
  obtain⟨h1,c⟩:=ym.mp hn;have a:=h x yC;have d:=qd4 (l:=r) (m:=m.erase x) c λy b=>(List.mem_erase_of_ne (λe=>h1 (by rw[<- e];show b))).mpr (h y (yz _ b));rw[List.length_erase_of_mem a] at d;have:0<m.length:=List.length_pos_of_mem a;simp only[Yb];lk
theorem ris_nd(tps:LS)(f:ss.Nodup):(zq ss tps ss).Nodup:=by
 unfold zq;show List.Pairwise _ _;rw[List.pairwise_flatMap];show⟨λa _=>?_,List.Pairwise.imp (λ{a b} c x g y h e=>?_) f⟩
 .show List.Pairwise.map _ (λx y d e=>d (Prod.mk.inj e).2) (f.filter _)
 .unfold qac at g h;obtain⟨o,_,rfl⟩:=yK.mp g;obtain⟨i,_,rfl⟩:=yK.mp h;show c (Prod.mk.inj e).1
theorem TOk.ris(e:ss.Nodup)(d:TOk ss tps):TOk ss (zq ss tps ss):=by
 have c:=ris_nd tps e;have a:∀ b∈zq ss tps ss,b∈tps:=λb h=>(qbN d b.1 b.2).mp h;show⟨yh (qd4 c a) d.few,λb h=>d.ok b (a b h),c⟩
theorem WG.ris(hw:WOk ss ns)(h:WG ss ns dps):zq ss dps ss=dps:=(qco hw h.tok h.adj).symm.trans h.due
theorem WG.of(hw:WOk ss ns)(a:TOk ss tps)(sh:Shuf tps ups)(hb:qab ss ns ups)(b:zq ss tps ss=tps):WG ss ns tps:=
 ⟨a,qd0 sh hb,(qco hw a (qd0 sh hb)).trans b⟩
theorem WG.ofR(hw:WOk ss ns)(a:TOk ss tps)(sh:Shuf tps ups)(hb:qab ss ns ups):WG ss ns (zq ss tps ss):=
 ⟨a.ris hw.nd,Adj.ris a (qd0 sh hb),qco hw a (qd0 sh hb)⟩
theorem WebN.ok(h:WebN H0 cw H x ss ns):WOk ss ns:=by
 obtain⟨_,_,_,_,_,_,_,_,z,_⟩:=h;show z
theorem WebAt.ok(h:WebAt cw H x ss ns):WOk ss ns:=by
 obtain⟨_,_,_,_,_,_,_,_,z⟩:=h;show z
theorem qb7:∀{b:LN},(∀ s∈b,s∈ss/\jG s=true)->qfb ss (b.map V.str)=none
 | [],_=>rfl
 | s::r,h=>by
  have a:=h s yC;show(if qI ss (.str s)=true then qfb ss (r.map V.str) else some (.str s))=none;rw[yB (j0 a.1 a.2)];show qb7 λx c=>h x (yz _ c)
theorem qd5(xs:List V)(h:xs≠[]):qbm xs none (some (-1))=xs.dropLast:=by
 have hl:0<xs.length:=YV.mpr h;unfold qbm;rw[HT.sIx_none]
 have e:HT.sIx xs.length xs.length (some (-1))=xs.length-1:=by
  show(if (-1:Int)<0 then(-1+(xs.length:Int)).toNat else min (-1:Int).toNat xs.length)=_;rw[yB (by decide)];lk
 rw[e,kF,Nat.sub_zero,List.dropLast_eq_take]
theorem qfP{xs:LN}(h:s∈xs.dropLast):s∈xs:=by
 rw[List.dropLast_eq_take] at h;show XG h
def qhO(cc:Nat->Addr)(cw:Addr):Sp:=λvs H Q _=>∃(x b p:Addr) (ss:LN) (ns:LQ) (tr:LN) (dps:LS),vs=[.ref x]/\PlayAt (cc 10) cw H x b p ss ns tr/\WG ss ns dps/\tr≠[]/\tr.length<=100/\(∀ s∈tr,s∈ss) /\
 ∀(c:Addr) (a:LQ) (H':Hp),L2.Same H H'->H c=none->WebN H cw H' c (qad ss (tr.dropLast.map V.str)) a->WG (qad ss (tr.dropLast.map V.str)) a (qav dps (qad ss (tr.dropLast.map V.str)))->Q (.ref c) H'
def qgS(cc:Nat->Addr)(cw:Addr):Sp:=λvs H Q _=>∃(x b p:Addr) (ss:LN) (ns:LQ) (tr:LN) (z:Str) (dps:LS),vs=[.ref x]/\PlayAt (cc 10) cw H x b p ss ns tr/\WG ss ns dps/\tr.getLast?=some z/\tr.length<=100/\(∀ s∈tr,s∈ss) /\
 ∀(r t c d:Addr) (ts:LX) (H':Hp),L2.Same H H'->H r=none->H' r=some (.tup [.str z,.ref t])->H' t=some (.tup [.ref c,.ref d])->H' c=some (.tup ((qad ss (tr.dropLast.map V.str)).map V.str))->H' d=some (.tup (ts.map V.ref))->All2 (λt a=>H' t=some (.tup [.str a.1,.str a.2])) ts (qav dps (qad ss (tr.dropLast.map V.str)))->Q (.ref r) H'
theorem ok_wl(F:Fun K "web_left" "Play.web_left" jE f fd)(T:Txt K mg cc cw)(ud:wqX 8 cw "without" ["self","places"] (λvs H Q _=>qfN cc cw vs H Q E0)):wqY 9 f fd wh (qhO cc cw):=by
 show F.ok KY (λvs H Q E h=>?_) λ_ _ _ s H vs Q E M h=>?_
 .obtain⟨x,b,p,ss,ns,tr,dps,rfl,_⟩:=h;rfl
 .obtain⟨x,b,p,ss,ns,tr,dps,rfl,hP,t,C,O,a,q⟩:=h;obtain⟨dx,G,hp,L⟩:=id hP;obtain⟨wx,d,ol,n,hb,_,_,_,hw⟩:=id L;have hu:=zT M;show⟨_,(qf (qm (jo ud (hmR M) (qK (K:=K) rfl (pv 0) rfl) (qa (j9 (qfw (K:=K) rfl) (qK (K:=K) rfl (pv 0) rfl) qaw (zy (qcb qaH qg))) qb)))),?_⟩;apply .inl ⟨x,cc 10,dx,_,.ref b,rfl,G,T.pcl,T.pb,qcp,?_⟩;apply⟨b,wx,_,rfl,hb,qau (by room),?_⟩;apply .inl ⟨x,cc 10,dx,_,.ref p,rfl,G,T.pcl,T.pp,qaD,?_⟩;apply vU ?_;apply .inl ⟨p,_,rfl,SqL.of hp,λl hl=>?_⟩
  have W:qbm (tr.map V.str) none (some (-1))=tr.dropLast.map V.str:=by
   rw[qd5 _ (by simpa using C)];simp
  rw[W];have c:=qF (Sr H) (o:=.lst (tr.dropLast.map V.str)) hl;have r:upd H l (.lst (tr.dropLast.map V.str)) l=some (.lst (tr.dropLast.map V.str)):=qc;generalize upd H l (.lst (tr.dropLast.map V.str))=H1 at c r ⊢;have j:∀ s∈tr.dropLast,s∈ss/\jG s=true:=λs N=>⟨a s (qfP N),hw.nm _ (a s (qfP N))⟩;have B:=qb7 (ss:=ss) j;apply⟨x,b,ss,ns,dps,.ref l,some (tr.dropLast.map V.str),rfl,L.same c,t,.lst r (λe=>by rw[e,c _ _ G] at r;cases r) (λv hv=>?_) (by rw[ya,List.length_dropLast];lk),(λe=>by cases e),(λxs y e g=>by cases e;rw[B] at g;cases g),λxs e g x' m H2 J I i A=>?_⟩
  .obtain⟨s',D,rfl⟩:=yK.mp hv;show Th.flat rfl (λz e=>by cases e;have:=j5 (j _ D).2;lk)
  cases e;have u:WG (qad ss (tr.dropLast.map V.str)) m (qav dps (qad ss (tr.dropLast.map V.str))):=WG.of i.ok (t.tok.keep _) (Shuf.self _) A (ris_keep (t.ris hw) _);show q x' m H2 (c.trans J) (c.free I) ?_ u;obtain⟨R,g,S,U,h1,X,Y,Z,h5,h6,h7,h8⟩:=i;show⟨R,g,S,U,h1,X,Y,Z,h5,c.free h6,c.free h7,c.free h8⟩
theorem ok_pos(F:Fun K "position" "Play.position" jF f fd)(T:Txt K mg cc cw)(S:wqX 1 (cc 10) "stands_at" wh (qhm cc cw))(O:wqX 9 (cc 10) "web_left" wh (qhO cc cw))(R:wqX 8 cw "told" wh (qeS cw)):wqY 10 f fd wh (qgS cc cw):=by
 show F.ok KZ (λvs H Q E h=>?_) λ_ _ _ _ H vs Q E A h=>?_
 .obtain⟨x,b,p,ss,ns,tr,z,dps,rfl,_⟩:=h;rfl
 .obtain⟨x,b,p,ss,ns,tr,z,dps,rfl,s,U,D,j,g,q⟩:=h;obtain⟨dx,L,hp,hW⟩:=id s;have y:tr≠[]:=λe=>by rw[e] at D;cases D
  show⟨_,(qf (qm (qV (qa (qv S (hmR A) (pv 0)) (qa (qv R (hmR A) (qv O (hmR A) (pv 0))) qb))))),?_⟩;apply⟨x,dx,_,rfl,L,qR,?_⟩;apply⟨x,b,p,ss,ns,tr,z,rfl,s,D,?_⟩;apply⟨x,dx,_,rfl,L,qR,?_⟩;apply⟨x,b,p,ss,ns,tr,dps,rfl,s,U,y,j,g,λN G H1 Y X v m=>?_⟩;have c:=v.web;obtain⟨wx,d,ol,n,hb,_⟩:=id c;apply⟨N,wx,_,rfl,hb,qau (by room),?_⟩;apply⟨N,_,G,rfl,c,λt Z t2 l ts H2 I W B C J=>?_⟩;rw[m.due] at J;apply⟨wq1,λr i=>?_⟩;have M:=Y.trans I;have a:=qF (Sr H2) (o:=.tup [.str z,.ref t]) i;show q r t Z t2 ts _ (M.trans a) (M.free i) qc (a _ _ W) (a _ _ B) (a _ _ C) (J.mono λu ab z=>a _ _ z.2.2)
theorem KL:FnScope ["web","names","play","name"] wqQ (qd qbs):=fS
structure RowOk(ss:LN)(ns:LQ)(tr:LN):Prop where
 ne:tr≠[]
 few:tr.length<=100
 ins:∀ s∈tr,s∈ss
 mv:∀(i:Nat) z v,tr[i]?=some z->tr[i+1]?=some v->v∈mvS ss ns (tr.take (i+1)) z
theorem qbt(s:L2.Same H H1)(b:But p H1 H2)(a:H p=none):L2.Same H H2:=λc o e=>b c o (λz=>by rw[z,a] at e;cases e) (s c o e)
theorem uP:FnScope wqk wqk (qd qag):=fS
def mvL(ups:LS)(ss tr:LN)(z:Str):LN:=ss.filter λo=>!decide (o∈tr)&&tiB ups z o
theorem mv_eq(hw:WOk ss ns)(d:Adj ss ns dps)(e:∀ a b,tiB ups a b=tiB dps a b)(f:z∈ss):mvS ss ns tr z=mvL ups ss tr z:=by
 have c:ss[ss.idxOf z]?=some z:=by rw[yb (YI f)];show congrArg some (YM _)
 unfold mvS mvL ngS;rw[bes_of hw d c];unfold qf9;rw[x5];show Xn λo _=>?_;rw[e];rfl
def qhP:Sp:=λvs H Q _=>∃(n l t:Addr) (ss:LN) (ts:LX) (ups:LS) (tr:LN) (z:Str),vs=[.ref n,.ref l,.ref t]/\H n=some (.lst (ss.map V.str))/\ss.length<=14/\PL H l ts ups/\H t=some (.lst (tr.map V.str))/\tr.getLast?=some z/\∀(r:Addr) (H':Hp),L2.Same H H'->H r=none->H' r=some (.lst ((mvL ups ss tr z).map V.str))->Q (.ref r) H'
theorem ok_mvL(F:Fun K "_law_moves" "_law_moves" qag f fd)(I:wqW 1 "_law_tied" wqv qhM):wqY 2 f fd wqk qhP:=by
 show F.ok uP (λvs H Q E h=>?_) λ_ _ _ _ H vs Q E u h=>?_
 .obtain⟨n,l,t,ss,ts,ups,tr,z,rfl,_⟩:=h;rfl
 .obtain⟨n,l,t,ss,ts,ups,tr,z,rfl,s,few,hl,v,G,q⟩:=h;have x:=zT u;show⟨_,(qf (qm (zC (sc:=qd qag) (XN:=wqk) wqL 1 [2,1] rfl rfl rfl (by room) rfl (by room)
  (jR (K:=K) rfl (pv 0)) (λ_ _ _ _=>(qr (i:=0) (show(wqL:LN).Nodup by room) rfl (yJ rfl))) zn
  (λ_ _ _ _=>(qaO (PW.pt (qel (qw (qaU (K:=K) rfl x) (pv 0) (pv 1) (by with_unfolding_all rfl)) (qda (jg (qE I (hmR u) qN (qa (pv 2) (qa (qG (qH (K:=K) rfl x) (pv 1) (qcb qaH qg) (λ_ _=>rfl)) (qa (pv 0) qb))))))))))
  (λ_ _ _ _=>(pv 0))))),?_⟩
  apply .inl ⟨⟨_,SqL.of s⟩,zt (K:=K) (λm ys H'=>L2.Same H H'/\ys=(mvL ups (ss.take m) tr z).map V.str) ⟨L2.Same.refl H,rfl⟩ (λm ys H' _ C=>SqL.of (C.1 _ _ s)) (λm y ys H' D b=>?_) λys H' b=>?_⟩
  .obtain⟨a,rfl⟩:=b;obtain⟨o,B,rfl⟩:=qaC D;have p:ss.take (m+1)=ss.take m++[o]:=by rw[yT,B];rfl
   have c:((mvL ups (ss.take m) tr z).map V.str).length<sizeLine:=by
    rw[ya];show qk (yh (YC _ _) (by rw[Yc];lk))
   have g:mvL ups (ss.take (m+1)) tr z=mvL ups (ss.take m) tr z++(if (!decide (o∈tr)&&tiB ups z o)=true then [o] else []):=by
    unfold mvL;rw[p,Ys,xT];rfl
   rw[g,yD];apply .inl ⟨t,_,rfl,.inl (SqL.of (a _ _ v)),rfl,zu _,?_⟩;rw[qaB];apply qU (λh=>?_) λh=>?_
   .have h:(!decide (o∈tr))=true:=h;rw[h];apply vU ?_;show .inl (qbF (a _ _ v) (qdv G) ?_);apply⟨l,ts,ups,z,o,rfl,hl.same a,λH2 A=>?_⟩;apply qU (λd=>?_) λd=>?_
    .ext;show⟨c,a.trans A,?_⟩;rw[d];rfl
    .show⟨a.trans A,?_⟩;have d:tiB ups z o=false:=by simpa using d
     rw[d];simp
   .have h:(!decide (o∈tr))=false:=by
     have h:¬ (!decide (o∈tr))=true:=h;simpa using h
    rw[h];show yo ?_;show⟨a,by simp⟩
  .obtain⟨a,rfl⟩:=b;have j:ss.take (ss.map V.str).length=ss:=by rw[ya,Ye]
   rw[j];show⟨by rw[ya];show Ym (qk (yh (YC _ _) (by lk))),λr e=>q r _ (qF a e) (a.free e) qc⟩
theorem qbu:∀ x∈ss.map V.str,EqD K H m x x true:=λx a=>by
 obtain⟨s,_,rfl⟩:=yK.mp a;have e:=EqD.flat (K:=K) (H:=H) (n:=m) (x:=.str s) (y:=.str s) rfl rfl;rw[qdR,yL rfl] at e;show e
theorem qah(h:EqT K H n a b true):EqD K H n (.ref a) (.ref b) true:=by
 by_cases e:a=b
 .subst e;show .self
 .show .deep h e
theorem qb8(c:H a=some (.tup xs))(hb:H b=some (.tup ys))(hl:xs.length=ys.length)(d:∀(j:Nat) x y,xs[j]?=some x->ys[j]?=some y->EqD K H n x y true):EqT K H (n+1) a b true:=by
 have z:=EqT.tup (K:=K) (H:=H) (n:=n) (e:=λ_=>true) (SqT.of c) (SqT.of hb) d;rw[hl,Nat.min_self,YY,Bool.and_true,qa5] at z;show z
structure Duo(ss:LN)(ns:LQ)(dps ups:LS):Prop where
 wg:WG ss ns dps
 ti:∀ a b,tiB ups a b=tiB dps a b
theorem qhp{Q:VK}{i:Int}(b:H p=some (.lst (ss.map V.str)))(a:0<=i)(h1:i<ss.length)(h:∀ s∈ss,Q (.str s) H):qfH K (.ref p) (.int i) H Q:=by
 obtain⟨y,e,d⟩:=qb2 (xs:=ss.map V.str) a (by rw[ya];show h1);obtain⟨s,c,rfl⟩:=yK.mp (ye d);show .inl (qbF b e (h s c))
theorem duo_ti(c:TOk ss tps)(sh:Shuf tps ups)(a b:Str):tiB ups a b=tiB (zq ss tps ss) a b:=by
 unfold tiB;rw[Yn];simp only[kC,yX];rw[sh.mem a b,qbN c a b,qbN c b a]
theorem row_one(h:st∈ss):RowOk ss ns [st]:=⟨by simp,by show 1<=100;decide,λs a=>by rw[yA.mp a];show h,λi z v _ h=>by simp at h⟩
theorem RowOk.snoc{v:Str}(h:RowOk ss ns tr)(hl:tr.length<100)(g:tr.getLast?=some z)(hv:v∈mvS ss ns tr z)(j:v∈ss):RowOk ss ns (tr++[v]):=by
 show⟨by simp,by rw[yx];show tr.length+1<=100;lk,λs f=>?_,λi y u c a=>?_⟩
 .rcases Yj.mp f with q | q
  .show h.ins s q
  .rw [yA.mp q];show j
 .have d:i+1<(tr++[v]).length:=(yc.mp a).1;rw[yx] at d;have d:i+1<tr.length+1:=d;rw[yQ (by lk)] at c;rw[List.take_append_of_le_length (by lk)];by_cases e:i+1<tr.length
  .rw [yQ e] at a;show h.mv i y u c a
  .have b:i+1=tr.length:=by lk
   rw[yS (by lk),b,Nat.sub_self] at a;cases a;rw[List.getLast?_eq_getElem?,<- b,Nat.add_sub_cancel,c] at g;cases g;rw[b,Ye];show hv
def qfk(cc:Nat->Addr)(cw:Addr):Sp:=λvs H Q E=>∃(x b p q:Addr) (k:Nat) (ss:LN) (ns:LQ) (tr:LN) (z:Str) (v:V),vs=[.ref x,v]/\PlayAt (cc 10) cw H x b p ss ns tr/\tr.getLast?=some z/\z∈ss/\Th q H k v/\(∀ u,v=.str u->u∉mvS ss ns tr z)/\Rz cc H E (5,v)
def qga(cc:Nat->Addr)(cw:Addr):Sp:=λvs H Q E=>∃(x b p:Addr) (ss:LN) (ns:LQ) (st:Str),vs=[.ref x]/\PlayAt (cc 10) cw H x b p ss ns [st]/\∀ H',L2.Same H H'->E (.ref (cc 6)) none H'
def qgT(cc:Nat->Addr)(cw:Addr):Sp:=λvs H Q E=>∃(x b q:Addr) (k:Nat) (ss:LN) (ns:LQ) (v:V),vs=[.ref x,.ref b,v]/\WebAt cw H b ss ns/\Th q H k v/\qI ss v=false/\Rz cc H E (2,v)
theorem inV_no{xs:LN}(h:∀ u,v=.str u->u∉xs)(a:qM v=true):inV v (xs.map V.str)=false:=by
  cases v with
  | str u=>rw[qaB];show yk (h u rfl)
  | _ =>
    first
    | (exfalso;revert a;show(by decide))
    | (unfold inV
       rw[List.any_eq_false];intro y b;obtain⟨s,_,rfl⟩:=yK.mp b;simp[eqV])
    | (exfalso;cases a;done)
theorem Th.notin{k:Nat}{xs:LN}{Q:VK}(h:Th q H k v)(a:H p=some (.lst (xs.map V.str)))(hv:∀ u,v=.str u->u∉xs)(k':Q (.bl true) H):qgL K v (.ref p) H Q:=by
 cases h with
 | flat f l =>
  show .inl (.inl ⟨p,_,rfl,.inl (SqL.of a),f,zu _,?_⟩);rw[inV_no hv f];show k'
 | lst e ne h l=>show .inr ⟨p,xs,_,_,rfl,SqL.of a,rfl,e,rfl,k'⟩
 | tup e ne h l=>show .inr ⟨p,xs,_,_,rfl,SqL.of a,rfl,e,rfl,k'⟩
 | dct e ne=>show .inr ⟨p,xs,_,_,rfl,SqL.of a,rfl,e,rfl,k'⟩
theorem ok_mvtX(F:Fun K "move_to" "Walk.move_to" jk f fd)(T:Txt K mg cc cw)(t:XMakeOk P w K mg base 2 (cc 5) "NoMove" wqa (spX (cc 5) (qam 5)))(s:wqX 7 (cc 10) "moves" wh (qgR cc cw)):FnOk P w K mg base (CX1 P w) 8 f fd wqq (qfk cc cw):=by
 show F.ok1 Kv (λvs H Q E h=>?_) λ_ _ _ _ H vs Q E c h=>?_
 .obtain⟨x,b,p,q,k,ss,ns,tr,z,v,rfl,_⟩:=h;rfl
 .obtain⟨x,b,p,q,k,ss,ns,tr,z,v,rfl,g,o,e,hv,a,j⟩:=h;obtain⟨dx,n,y,u⟩:=id g;have m:=zT c;show⟨_,(qe (jf (qw (k_notinX (K:=K) rfl m) (pv 1) (qv s (hmR c) (pv 0)) (by with_unfolding_all rfl)) (qf (qO (K:=K) rfl qp (zY t (hmR c) (qa (pv 1) qb)))) qu)
 (qf (qB (qeb (K:=K) rfl yH Yh Yi jw (qK (K:=K) rfl (pv 0) rfl) (qa (pv 1) qb))))),?_⟩
  apply⟨x,dx,_,rfl,n,qR,?_⟩;apply⟨x,b,p,ss,ns,tr,z,rfl,g,o,e,λr H1 i l d=>?_⟩;show(hv.same i).notin d a ?_;apply qbB ?_;apply qA (T.xat 5 (by decide)) (j.later i)
theorem ok_pgoX(F:Fun K "go" "Play.go" qaf f fd)(T:Txt K mg cc cw)(e:MethOk P w K mg base (CX1 P w) 8 (cc 10) "move_to" wqq (qfk cc cw)):FnOk P w K mg base (CX1 P w) 9 f fd wql (qfk cc cw):=by
 show F.ok1 K3 (λvs H Q E h=>?_) λ_ _ _ _ H vs Q E i h=>?_
 .obtain⟨x,b,p,q,k,ss,ns,tr,z,v,rfl,_⟩:=h;rfl
 .obtain⟨x,b,p,q,k,ss,ns,tr,z,v,rfl,d,l,c,hv,a,g⟩:=h;obtain⟨dx,j,n,m⟩:=id d;show⟨_,(qf (qB (zE e (hmR i) qp (pv 0) (qa (pv 1) qb)))),?_⟩;apply⟨x,dx,_,rfl,j,qR,?_⟩;apply⟨x,b,p,q,k,ss,ns,tr,z,v,rfl,d,l,c,hv,a,g⟩
theorem ok_bkX(F:Fun K "back" "Walk.back" zM f fd)(T:Txt K mg cc cw)(q:XMakeOk P w K mg base 2 (cc 6) "NoBack" wh (qhj (cc 6))):FnOk P w K mg base (CX1 P w) 4 f fd wh (qga cc cw):=by
 show F.ok1 uy (λvs H Q E h=>?_) λ_ _ _ _ H vs Q E g h=>?_
 .obtain⟨x,b,p,ss,ns,st,rfl,_⟩:=h;rfl
 .obtain⟨x,b,p,ss,ns,st,rfl,j,i⟩:=h;obtain⟨dx,n,l,r⟩:=id j;have m:=zT g;show⟨_,(qe (jf (qw (qch (K:=K) rfl m) (qi (zo (K:=K) rfl) rfl T.b_len YH (qa (qK (K:=K) rfl (pv 0) rfl) qb)) qg (qJ _)) (qf (qO (K:=K) rfl qp (pe_xm0 q (hmR g)))) qu)
 (qf (qm (qgF (K:=K) rfl yH Xs Xu qeH (qK (K:=K) rfl (pv 0) rfl))))),?_⟩
  apply .inl ⟨x,cc 10,dx,_,.ref p,rfl,n,T.pcl,T.pp,qaD,?_⟩;apply qbG l ?_;apply .inl (.inl (.inl ⟨rfl,rfl,?_⟩));apply qU (λ_=>?_) λh=>absurd rfl h;apply⟨by show 0<=1000;decide,λd a=>⟨d,rfl,qc,rfl,d,cc 6,none,rfl,qc,T.xat 6 (by decide),i _ λc o e=>?_⟩⟩;have nx:c≠d:=λz=>by rw[z,a] at e;cases e
  rw[qh nx,qh nx];show e
theorem ok_wkX(F:Fun K "__init__" "Walk.__init__" j6 f fd)(T:Txt K mg cc cw)(j:XMakeOk P w K mg base 2 (cc 2) "NoPlace" wqa (spX (cc 2) (qam 2)))(i:wqX 3 cw "has_place" wqq (qeR cw)):FnOk P w K mg base (CX1 P w) 5 f fd wqi (qgT cc cw):=by
 show F.ok1 KJ (λvs H Q E h=>?_) λ_ _ _ _ H vs Q E c h=>?_
 .obtain⟨x,b,q,k,ss,ns,v,rfl,_⟩:=h;rfl
 .obtain⟨x,b,q,k,ss,ns,v,rfl,e,hv,a,g⟩:=h;have o:=zT c;show⟨_,(qe (jf (jQ (jg (jo i (hmR c) (pv 1) (qa (pv 2) qb)))) (qf (qO (K:=K) rfl qp (zY j (hmR c) (qa (pv 2) qb)))) qu)
 (qe (ju (K:=K) rfl (pv 0) (pv 1) rfl)
 (qf (ju (K:=K) rfl (pv 0) (qy (qa (pv 2) qb)) rfl)))),?_⟩
  obtain⟨m,d,ol,n,hb,_,_,_,hw⟩:=id e;apply⟨b,m,_,rfl,hb,qau (by room),?_⟩;apply⟨q,k,b,ss,ns,v,rfl,e,hv,λH1 l=>?_⟩;rw[a];apply qbB ?_;apply qA (T.xat 2 (by decide)) (g.later l)
theorem uo:FnScope wh wh (qd zi):=fS
theorem uq:FnScope wh wh (qd zj):=fS
theorem uz:FnScope wh wh (qd zN):=fS
theorem qfQ{e:Addr}{xs:LN}(b:H a=some (.lst (xs.map V.str)))(c:H e=some (.lst [])):EqT K H 1 a e (decide (xs=[])):=by
 cases xs with
 | nil =>
  have d:=EqT.lst (K:=K) (H:=H) (n:=0) (e:=λ_=>true) (SqL.of b) (SqL.of c) rfl λj x y h1 f=>by simp at h1
  rw[qa5] at d;show d
 | cons s r=>show .lstL (SqL.of b) (SqL.of c) (by simp)
def qgb(cc:Nat->Addr)(cw:Addr):Sp:=λvs H Q _=>∃(x b p:Addr) (ss:LN) (ns:LQ) (tr:LN) (z:Str),vs=[.ref x]/\PlayAt (cc 10) cw H x b p ss ns tr/\tr.getLast?=some z/\z∈ss/\∀(H':Hp),L2.Same H H'->Q (.bl (decide (mvS ss ns tr z=[]))) H'
def qg6(n:Nat)(e:Bool):V:=if e=true then .int (((n:Int)-1) % 2) else .non
def qgU(cc:Nat->Addr)(cw:Addr):Sp:=λvs H Q _=>∃(x b p:Addr) (ss:LN) (ns:LQ) (tr:LN) (z:Str),vs=[.ref x]/\PlayAt (cc 10) cw H x b p ss ns tr/\tr.getLast?=some z/\z∈ss/\∀(H':Hp),L2.Same H H'->Q (qg6 tr.length (decide (mvS ss ns tr z=[]))) H'
def qgV(cc:Nat->Addr)(cw:Addr):Sp:=λvs H Q _=>∃(x b p:Addr) (ss:LN) (ns:LQ) (tr:LN),vs=[.ref x]/\PlayAt (cc 10) cw H x b p ss ns tr/\∀(r:Addr) (H':Hp),L2.Same H H'->H r=none->H' r=some (.lst ((ngS tr ss).map V.str))->Q (.ref r) H'
theorem ok_end(F:Fun K "ended" "Walk.ended" zi f fd)(T:Txt K mg cc cw)(t:wqX 7 (cc 10) "moves" wh (qgR cc cw)):wqY 8 f fd wh (qgb cc cw):=by
 show F.ok uo (λvs H Q E h=>?_) λ_ _ _ _ H vs Q E i h=>?_
 .obtain⟨x,b,p,ss,ns,tr,z,rfl,_⟩:=h;rfl
 .obtain⟨x,b,p,ss,ns,tr,z,rfl,g,s,d,q⟩:=h;obtain⟨dx,n,y,v⟩:=id g;have m:=zT i;show⟨_,(qf (qm (zx (qch (K:=K) rfl m) (qv t (hmR i) (pv 0)) (qy qb) (qJ _)))),?_⟩;apply⟨x,dx,_,rfl,n,qR,?_⟩;apply⟨x,b,p,ss,ns,tr,z,rfl,g,s,d,λr H1 u l c=>?_⟩;apply⟨by decide,λe j=>?_⟩;have a:=qF (Sr H1) (o:=.lst []) j;show .inl (.inl (.inr (.inl ⟨r,e,_,1,rfl,rfl,by decide,qfQ (a _ _ c) qc,?_⟩)));show q _ (u.trans a)
theorem ok_los(F:Fun K "loser" "Walk.loser" zj f fd)(T:Txt K mg cc cw)(j:wqX 8 (cc 10) "ended" wh (qgb cc cw))(l:wqX 1 (cc 10) "hand" wh (qhn cc cw)):wqY 9 f fd wh (qgU cc cw):=by
 show F.ok uq (λvs H Q E h=>?_) λ_ _ _ _ H vs Q E g h=>?_
 .obtain⟨x,b,p,ss,ns,tr,z,rfl,_⟩:=h;rfl
 .obtain⟨x,b,p,ss,ns,tr,z,rfl,a,m,d,q⟩:=h;obtain⟨dx,i,o,n⟩:=id a;show⟨_,(qf (qm (pe_ifExp (jg (qv j (hmR g) (pv 0))) (qv l (hmR g) (pv 0)) qek))),?_⟩;apply⟨x,dx,_,rfl,i,qR,?_⟩;apply⟨x,b,p,ss,ns,tr,z,rfl,a,m,d,λH1 e=>?_⟩;replace q:=q H1 e;generalize decide (mvS ss ns tr z=[])=c at q ⊢;ext
  cases c with
  | true =>
   show qbB ?_;apply⟨x,dx,_,rfl,e _ _ i,qR,?_⟩;apply⟨x,b,p,ss,ns,tr,rfl,a.same e,q⟩
  | false=>show qU (λh=>by cases h) λ_=>q
theorem ok_lft(F:Fun K "left" "Play.left" zN f fd)(T:Txt K mg cc cw)(s:wqX 1 cw "places" wh (qgP cw))(m:wqX 1 (cc 10) "not_gone" wqH (qho cc cw)):wqY 3 f fd wh (qgV cc cw):=by
 show F.ok uz (λvs H Q E h=>?_) λ_ _ _ _ H vs Q E i h=>?_
 .obtain⟨x,b,p,ss,ns,tr,rfl,_⟩:=h;rfl
 .obtain⟨x,b,p,ss,ns,tr,rfl,e,q⟩:=h;obtain⟨dx,j,u,g⟩:=id e;obtain⟨t,d,ol,n,hb,_,_,_,hw⟩:=id g;show⟨_,(qf (qm (jo m (hmR i) (pv 0) (qa (qv s (hmR i) (qK (K:=K) rfl (pv 0) rfl)) qb)))),?_⟩;apply⟨x,dx,_,rfl,j,qR,?_⟩;apply .inl ⟨x,cc 10,dx,_,.ref b,rfl,j,T.pcl,T.pb,qcp,?_⟩;apply⟨b,t,_,rfl,hb,qau (by room),?_⟩;apply⟨b,ss,ns,rfl,g,λl hl=>?_⟩;have c:=qF (Sr H) (o:=.lst (ss.map V.str)) hl;apply⟨x,b,p,l,ss,ns,tr,ss,rfl,e.same c,qc,hw.few,λr a=>?_⟩;show q r _ (qF c a) (c.free a) qc
theorem uJ:FnScope wqK wqK (qd qas):=fS
theorem uB:FnScope wqB wqB (qd zO):=fS
def qfR:V->Bool
 | .int _=>true
 | _=>false
def qaE(lo a:Int):V->Bool
 | .int i=>decide (lo<=i)&&decide (i<=a)
 | _=>false
def qhQ:Sp:=λvs H Q _=>∃(q:Addr) (k:Nat) (v:V),vs=[v]/\Th q H k v/\Q (.bl (qfR v)) H
def qhq:Sp:=λvs H Q _=>∃(q:Addr) (k:Nat) (v:V) (lo a:Int),vs=[v,.int lo,.int a]/\Th q H k v/\Q (.bl (qaE lo a v)) H
theorem Th.whole{k:Nat}(h:Th q H k v):∃ t,TyOf K H v (.type t)/\W.kitOne K (.type t) (.type "int")=some (qbU t "int")/\W.kitOne K (.type t) (.type "bool")=some (qbU t "bool")/\qfR v=(qbU t "int"&&!qbU t "bool"):=by
 have a:∀ t∈wqo,W.kitOne K (.type t) (.type "int")=some (qbU t "int")/\W.kitOne K (.type t) (.type "bool")=some (qbU t "bool"):=λt b=>⟨qbc K t b "int" (by simp),qbc K t b "bool" (by simp)⟩
 cases h with
 | flat f l =>
  cases v with
  | non=>show⟨"NoneType",.non,(a _ (by simp)).1,(a _ (by simp)).2,rfl⟩
  | bl x=>show⟨"bool",.bl x,(a _ (by simp)).1,(a _ (by simp)).2,rfl⟩
  | int x=>show⟨"int",.int x,(a _ (by simp)).1,(a _ (by simp)).2,rfl⟩
  | str x=>show⟨"str",.str x,(a _ (by simp)).1,(a _ (by simp)).2,rfl⟩
  | _=>cases f
 | lst e ne h l=>show⟨"list",.lst e,(a _ (by simp)).1,(a _ (by simp)).2,rfl⟩
 | tup e ne h l=>show⟨"tuple",.tup e,(a _ (by simp)).1,(a _ (by simp)).2,rfl⟩
 | dct e ne=>show⟨"dict",.dK e,(a _ (by simp)).1,(a _ (by simp)).2,rfl⟩
theorem ok_wh(F:Fun K "is_whole" "is_whole" qas f fd)(T:Txt K mg cc cw):wqY 1 f fd wqK qhQ:=by
 show F.ok uJ (λvs H Q E h=>?_) λ_ _ _ _ H vs Q E d h=>?_
 .obtain⟨q,k,v,rfl,_⟩:=h;rfl
 .obtain⟨q,k,v,rfl,hv,a⟩:=h;have i:=zT d;obtain⟨t,ty,e,g,c⟩:=hv.whole (K:=K);rw[c] at a;show⟨_,(qf (qm (qcy (qi (zb (K:=K) rfl) rfl T.b_isinstance yO (qa (pv 0) (qa (jz (v:=.ty "int") rfl T.b_int boot_int rfl) qb))) (qbX (pe_not (qi (zb (K:=K) rfl) rfl T.b_isinstance yO (qa (pv 0) (qa (jz (v:=.ty "bool") rfl T.b_bool boot_bool rfl) qb)))))))),?_⟩;apply qaV (.inl ty) rfl e ?_;ext
  cases b:qbU t "int" with
  | false =>
   rw[b] at a;show qU (λh=>by cases h) λ_=>a
  | true =>
   rw[b] at a;show qbB ?_;apply qaV (.inl ty) rfl g ?_;show⟨_,rfl,a⟩
theorem ok_wti(F:Fun K "is_within" "is_within" zO f fd)(e:wqW 1 "is_whole" wqK qhQ):wqY 2 f fd wqB qhq:=by
 show F.ok uB (λvs H Q E h=>?_) λ_ _ _ _ H vs Q E d h=>?_
 .obtain⟨q,k,v,lo,c,rfl,_⟩:=h;rfl
 .obtain⟨q,k,v,lo,c,rfl,hv,a⟩:=h;show⟨_,(qf (qm (qcy (qE e (hmR d) qN (qa (pv 0) qb)) (qbX (qdC qgf qgf (pv 1) (pv 0) (pv 2)))))),?_⟩;apply⟨q,k,v,rfl,hv,?_⟩;ext
  cases v with
  | int i =>
   show qbB ?_;ext;have a:Q (.bl (decide (lo<=i)&&decide (i<=c))) H:=a
   cases b:decide (lo<=i) with
   | false =>
    rw[b] at a;show qU (λh=>by cases h) λ_=>a
   | true =>
    rw[b] at a;show qbB ?_;apply a
  | _=>show qU (λh=>by cases h) λ_=>a
theorem FnOk.or{k:Nat}{b c:Sp}(d:FnOk P w K mg base CX k f fd ps b)(e:FnOk P w K mg base CX k f fd ps c):FnOk P w K mg base CX k f fd ps (λvs H Q E=>b vs H Q E\/c vs H Q E):=
 ⟨λvs H Q E h=>h.elim (d.len vs H Q E) (e.len vs H Q E),λA a s H args us vs Q E i g hb hv j=>j.elim (d.run A a s H args us vs Q E i g hb hv) (e.run A a s H args us vs Q E i g hb hv)⟩
def qeZ(cc:Nat->Addr)(cw:Addr):Sp:=λvs H Q E=>qeX cc cw vs H Q E\/qgT cc cw vs H Q E
def qe0(cc:Nat->Addr)(cw:Addr):Sp:=λvs H Q E=>qeY cc cw vs H Q E\/qfk cc cw vs H Q E
def SeqH(H:Hp)(l:Addr)(xs:List V):Prop:=H l=some (.lst xs)\/H l=some (.tup xs)
theorem SeqH.same(h:SeqH H l xs)(s:L2.Same H H'):SeqH H' l xs:=h.imp (λe=>s _ _ e) λe=>s _ _ e
theorem seq_ix{i:Int}{Q:VK}(h:SeqH H l xs)(a:atI xs i=some y)(q:Q y H):qfH K (.ref l) (.int i) H Q:=h.elim (λe=>.inl (qbF e a q)) λe=>.inl (qe8 e a q)
theorem seq_len{Q:VK}(h:SeqH H l xs)(q:Q (.int xs.length) H):qcd K [.ref l] H Q:=h.elim (λe=>qbG e q) λe=>qf1 e q
theorem seq_tl{x:V}{Q:VK}(h:SeqH H l (x::xs))(q:∀ d H',L2.Same H H'->H d=none->SeqH H' d xs->Q (.ref d) H'):qg3 K (.ref l) (some 1) none H Q:=by
 have b:qbm (x::xs) (some 1) none=xs:=by have:=qcU (x::xs) 1;show this
 rcases h with h | h
 .show .inl ⟨l,_,rfl,SqL.of h,λd a=>?_⟩;rw[b];show q d _ (qF (Sr H) a) a (.inl qc)
 .show .inr ⟨l,_,rfl,SqT.of h,λz=>?_,λd a=>?_⟩
  .have c:=z.1;unfold HT.sIx at c;simp at c
  .rw [b];show q d _ (qF (Sr H) a) a (.inr qc)
theorem seq_for{tb:TS}(h:SeqH H l xs)(a:Nat->L2.St->Hp->Prop)(d:a 0 σ H)(hl:∀ i σ H',a i σ H'->∀ o,H l=some o->H' l=some o)
  (f:∀ i x σ H,xs[i]?=some x->a i σ H->g x σ H λc H2=>tb { D with nx:=a (i+1),ct:=a (i+1),bk:=D.nx } c H2) (e:∀ σ H,a xs.length σ H->D.nx σ H) :
  ((∃ xs,SqL K H l xs)/\qgN g tb D σ (Itl K l) H)\/((∃ xs,SqT K H l xs)/\qgN g tb D σ (Itt K l) H):=by
 rcases h with h | h
 .show .inl ⟨⟨_,SqL.of h⟩,zw (K:=K) a d (λi σ H' _ b=>SqL.of (hl i σ H' b _ h)) f e⟩
 .show .inr ⟨⟨_,SqT.of h⟩,qen (K:=K) a d (λi σ H' _ b=>SqT.of (hl i σ H' b _ h)) f e⟩
theorem Kj:FnScope ["web","text","words"] wqE (qd qT):=fS
def wdS(z:Str):LN:=Txt.split z " > "
theorem wd_ne(z:Str):wdS z≠[]:=λh=>by
 have:=split_pos z " > ";unfold wdS at h;rw[h] at this;show absurd this (by decide)
theorem qfS(c:LQ):∀{xs:List (LQ)} {x:LQ},x∈xs->x.length<=(jl c xs).length
 | [],_,h=>by cases h
 | [y],x,h=>by rw[yA.mp h];show yg _
 | y::a::r,x,h=>by
  show x.length<=(y++c++jl c (a::r)).length;rw[yx,yx];rcases yt.mp h with rfl | h
  .omega
  .have:=qfS c h;lk
theorem wd_len(h:u∈wdS z):u.length<=z.length:=by
 have h1:=qdo " > " (wdS z);unfold wdS at h1 h;rw[StrLaws.join_split] at h1;have a:=qfS (" > ":Str).cps.toList (x:=u.cps.toList) (xs:=(Txt.split z " > ").map (·.cps.toList)) (yK.mpr ⟨u,h,rfl⟩);rw[<- h1] at a;simpa [Str.length] using a
def qgW(cc:Nat->Addr)(cw:Addr):Sp:=λvs H Q E=>∃(b r:Addr) (k:Nat) (ss:LN) (ns:LQ) (v:V),vs=[.ref b,v]/\WebAt cw H b ss ns/\Th r H k v/\((∀ z,v≠.str z)->Rz cc H E (7,.int 0))/\∀ z,v=.str z->z.length<=10000/\(∀ u,(wdS z)[0]?=some u->u∉ss->Rz cc H E (7,.int 0)) /\
 ∀ u,(wdS z)[0]?=some u->u∈ss->∀(l:Addr) (H':Hp),L2.Same H H'->H l=none->H' l=some (.lst ((wdS z).map V.str))->Q (.ref l) H'
theorem ok_wfs(F:Fun K "words_from_start" "words_from_start" qT f fd)(T:Txt K mg cc cw)(I:XMakeOk P w K mg base 2 (cc 7) "NoText" wqR (spX (cc 7) (qam 7)))(O:wqX 3 cw "has_place" wqq (qeR cw)):FnOk P w K mg base (CX1 P w) 4 f fd wqE (qgW cc cw):=by
 show F.ok1 Kj (λvs H Q E h=>?_) λ_ _ _ _ H vs Q E s h=>?_
 .obtain⟨b,r,k,ss,ns,v,rfl,_⟩:=h;rfl
 .obtain⟨b,r,k,ss,ns,v,rfl,D,hv,x,M⟩:=h;have J:=zT s;obtain⟨G,y,q,B,R,_⟩:=hv.ty (K:=K);have ks:=qbc K G y "str" (by simp);show⟨_,(qe (jf (jQ (jg (qi (zb (K:=K) rfl) rfl T.b_isinstance yO (qa (pv 1) (qa (jz (v:=.ty "str") rfl T.b_str boot_str rfl) qb))))) (qf (qO (K:=K) rfl qp (zY I (hmR s) (qa qg qb)))) qu)
 (qe (qx (i:=2) Kj.nd rfl (yJ rfl) (qeb (K:=K) rfl PySem.F.plainAttrs_str PySem.F.slot_str_split PySem.F.type_str_split mt_split (pv 1) (qa jN qb)))
 (qe (jf (jQ (jg (jo O (hmR s) (pv 0) (qa (qG (qH (K:=K) rfl J) (pv 2) qg (λ_ _=>rfl)) qb)))) (qf (qO (K:=K) rfl qp (zY I (hmR s) (qa qg qb)))) qu)
 (qf (qm (pv 2)))))),?_⟩
  apply qaV (.inl q) rfl ks ?_;ext
  cases C:qbU G "str" with
  | false =>
   show qU (λ_=>?_) λh=>absurd rfl h;apply qA (T.xat 7 (by decide)) (x λz e=>?_);subst e;cases q;cases C
  | true =>
   obtain⟨z,rfl,_⟩:=B C;obtain⟨N,m,g⟩:=M z rfl;show yo ?_;apply⟨rfl,?_⟩;apply⟨z,_,rfl,rfl,rfl,yh (show z.length+2<=10002 by lk) (by decide),λl hl=>?_⟩;have p:=qF (Sr H) (o:=.lst ((wdS z).map V.str)) hl;have t:upd H l (.lst ((wdS z).map V.str)) l=some (.lst ((wdS z).map V.str)):=qc
   change qg7 _ _ _ _ (upd H l (.lst ((wdS z).map V.str)))
   generalize upd H l (.lst ((wdS z).map V.str))=H1 at p t ⊢;obtain⟨u,c⟩:∃ u,(wdS z)[0]?=some u:=⟨_,yb (YV.mpr (wd_ne z))⟩;have L:=wd_len (ye c);obtain⟨S,d,ol,n,hb,_,_,_,hw⟩:=id (D.same p);apply⟨b,S,_,rfl,hb,qau (by room),?_⟩;apply .inl (qbF t (qW (j:=0) (by rw[yd,c];rfl)) ?_);apply⟨b,0,b,ss,ns,.str u,rfl,D.same p,Th.str (by lk),λH2 A=>?_⟩;ext;by_cases a:u∈ss
   .rw [j0 a (hw.nm _ a)];show yo ?_;apply g u c a l H2 (p.trans A) hl (A _ _ t)
   .rw [place_new a];show qbB ?_;apply qA (T.xat 7 (by decide)) ((m u c a).later (p.trans A))
theorem ue:FnScope wqs wqs (qd jY):=fS
theorem ur:FnScope wqs wqs (qd zl):=fS
theorem Kt:FnScope ["web","text","words","play"] wqE (qd zP):=fS
def qgh(cc:Nat->Addr)(a:Int):Sp:=λvs H Q E=>∃(x q:Addr) (k:Nat) (v:V),vs=[.ref x,v]/\Th q H k v/\qaE 0 a v=false/\Rz cc H E (8,v)
def qd6(cc:Nat->Addr)(cw:Addr):Sp:=λvs H Q E=>∃(b l q:Addr) (k:Nat) (ss:LN) (ns:LQ) (v:V),vs=[.ref b,.ref l]/\WebAt cw H b ss ns/\Th q H k v/\(∀ s,v=.str s->s.length<=1000) /\
 ((SeqH H l [v,v]/\qI ss v=false/\Rz cc H E (2,v))\/∃ st,SeqH H l [.str st,v]/\st∈ss/\st.length<=1000/\(∀ u,v=.str u->u∉mvS ss ns [st] st)/\Rz cc H E (5,v))
def qgc(cc:Nat->Addr)(cw:Addr):Sp:=λvs H Q E=>∃(b r:Addr) (k:Nat) (ss:LN) (ns:LQ) (v:V),vs=[.ref b,v]/\WebAt cw H b ss ns/\Th r H k v/\(∀ z,v=.str z->z.length<=10000/\∀ u,(wdS z)[0]?=some u->u∉ss)/\Rz cc H E (7,.int 0)
theorem seq_isi{Q:VK}(h:SeqH H l xs)(a:H q=some (.tup [.ty "list",.ty "tuple"]))(k:Q (.bl true) H):qeG K [.ref l,.ref q] H Q:=by
 have b:W.kitAny K (.type "list") [.type "list",.type "tuple"]=some true:=rfl;have c:W.kitAny K (.type "tuple") [.type "list",.type "tuple"]=some true:=rfl;rcases h with e | e
 .show⟨.ref l,q,_,_,_,_,rfl,.inl (.lst e),a,rfl,b,k⟩
 .show⟨.ref l,q,_,_,_,_,rfl,.inl (.tup e),a,rfl,c,k⟩
section
variable{P:Program}{w:World}{K:W.Frag}{mg:Str->Option Value}{base:Heap}{cc:Nat->Addr}{cw:Addr}{sp1 sp2:Sp}
theorem ok_rwX(F:Fun K "rows_within" "rows_within" jY f fd)(T:Txt K mg cc cw)(c:XMakeOk P w K mg base 2 (cc 8) "NoNumbers" wqa (spX (cc 8) (qam 8)))(d:wqW 2 "is_within" wqB qhq)(e:wqX 1 (cc 10) "twin" wh sp1)(i:wqW 1 "rows_from" wqs sp2):FnOk P w K mg base (CX1 P w) 14 f fd wqs (qgh cc 3):=by
 show F.ok1 ue (λvs H Q E h=>?_) λ_ _ _ _ H vs Q E a h=>?_
 .obtain⟨x,r,k,v,rfl,_⟩:=h;rfl
 .obtain⟨x,r,k,v,rfl,hv,b,g⟩:=h;show⟨_,(qe (jf (jQ (jg (qE d (hmR a) qN (qa (pv 1) (qa qg (qa (qaQ rfl T.g_MOST_FOR_ROWS) qb)))))) (qf (qO (K:=K) rfl qp (zY c (hmR a) (qa (pv 1) qb)))) qu)
 (qf (qm (qE i (hmR a) qN (qa (qv e (hmR a) (pv 0)) (qa (pv 1) qb)))))),?_⟩
  apply⟨r,k,v,0,3,rfl,hv,?_⟩;rw[b];apply qbB ?_;apply qA (T.xat 8 (by decide)) g
theorem ok_cwX(F:Fun K "all_within" "all_within" zl f fd)(T:Txt K mg cc cw)(c:XMakeOk P w K mg base 2 (cc 8) "NoNumbers" wqa (spX (cc 8) (qam 8)))(d:wqW 2 "is_within" wqB qhq)(e:wqX 1 (cc 10) "twin" wh sp1)(i:wqW 1 "count_from" ["walk","many"] sp2):FnOk P w K mg base (CX1 P w) 14 f fd wqs (qgh cc 5):=by
 show F.ok1 ur (λvs H Q E h=>?_) λ_ _ _ _ H vs Q E a h=>?_
 .obtain⟨x,r,k,v,rfl,_⟩:=h;rfl
 .obtain⟨x,r,k,v,rfl,hv,b,g⟩:=h;show⟨_,(qe (jf (jQ (jg (qE d (hmR a) qN (qa (pv 1) (qa qg (qa (qaQ rfl T.g_MOST_FOR_THEIR_NUMBER) qb)))))) (qf (qO (K:=K) rfl qp (zY c (hmR a) (qa (pv 1) qb)))) qu)
 (qf (qm (qE i (hmR a) qN (qa (qv e (hmR a) (pv 0)) (qa (pv 1) qb)))))),?_⟩
  apply⟨r,k,v,0,5,rfl,hv,?_⟩;rw[b];apply qbB ?_;apply qA (T.xat 8 (by decide)) g
theorem ok_rdX(F:Fun K "read_play" "read_play" zP f fd)(T:Txt K mg cc cw)(l:DefOk P w K mg base (CX1 P w) 4 "words_from_start" wqE (qgW cc cw))(m:MakeOk P w K mg base (CX1 P w) 5 (cc 10) "Play" wqi (qeZ cc cw))(s:DefOk P w K mg base (CX1 P w) 1 "go_along" ["walk","words"] sp1):FnOk P w K mg base (CX1 P w) 11 f fd wqE (qgc cc cw):=by
 show F.ok1 Kt (λvs H Q E h=>?_) λ_ _ _ _ H vs Q E c h=>?_
 .obtain⟨b,r,k,ss,ns,v,rfl,_⟩:=h;rfl
 .obtain⟨b,r,k,ss,ns,v,rfl,o,hv,q,j⟩:=h;have p:=zT c;show⟨_,(qe (qx (i:=2) Kt.nd rfl (yJ rfl) (zD l (hmR c) qp (qa (pv 0) (qa (pv 1) qb))))
 (qe (qx (i:=3) Kt.nd rfl (yJ rfl) (qbn m (hmR c) qp (qa (pv 0) (qa (qG (qH (K:=K) rfl p) (pv 2) qg (λ_ _=>rfl)) qb))))
 (qe (qB (zD s (hmR c) qp (qa (pv 3) (qa (pv 2) qb))))
 (qf (qm (pv 3)))))),?_⟩
  apply⟨b,r,k,ss,ns,v,rfl,o,hv,λ_=>j,λz n=>?_⟩;obtain⟨g,a⟩:=q z n;show⟨g,λ_ _ _=>j,λu e d=>absurd d (a u e)⟩
theorem ok_pldT(F:Fun K "played" "played" qbs f fd)(T:Txt K mg cc cw)(kZ:XMakeOk P w K mg base 2 (cc 2) "NoPlace" wqa (spX (cc 2) (qam 2)))(Kh:MakeOk P w K mg base (CX1 P w) 5 (cc 10) "Play" wqi (qeZ cc cw))(kT:MethOk P w K mg base (CX1 P w) 9 (cc 10) "go" wql (qe0 cc cw)):FnOk P w K mg base (CX1 P w) 10 f fd wqQ (qd6 cc cw):=by
 show F.ok1 KL (λvs H Q E h=>?_) λ_ _ _ _ H vs Q E D h=>?_
 .obtain⟨b,l,q,k,ss,ns,v,rfl,_⟩:=h;rfl
 .obtain⟨b,l,q,k,ss,ns,v,rfl,R,hv,ac,hc⟩:=h;have hu:=zT D;have hw:=R.ok;obtain⟨r,hl⟩:∃ r,SeqH H l [r,v]:=hc.elim (λh=>⟨_,h.1⟩) λ⟨st,h⟩=>⟨_,h.1⟩;show⟨_,(qe (jf (PW.pt (qem (jQ (jg (qi (qcf (K:=K) rfl) rfl T.b_isinstance yO (qa (pv 1) (qa (qV (qa (jz (v:=.ty "list") rfl T.b_list XA rfl) (qa (jz (v:=.ty "tuple") rfl T.b_tuple x4 rfl) qb))) qb))))) (qcx (qw (qch (K:=K) rfl hu) (qi (zo (K:=K) rfl) rfl T.b_len YH (qa (pv 1) qb)) qg (qJ _))))) (qf (qO (K:=K) rfl qp (zY kZ (hmR D) (qa (pv 1) qb)))) qu)
 (qe (qx (i:=2) KL.nd rfl (yJ rfl) (qbn Kh (hmR D) qp (qa (pv 0) (qa (qG (qH (K:=K) rfl hu) (pv 1) qg (λ_ _=>rfl)) qb))))
 (qe (zW Xm rfl (jR (K:=K) rfl (j9 (qfw (K:=K) rfl) (pv 1) (zy qg) qaw)) (qr (i:=3) KL.nd rfl (yJ rfl))
 (qf (qB (zE kT (hmR D) qp (pv 2) (qa (pv 3) qb)))))
 (qf (qm (pv 2)))))),?_⟩
  apply⟨wq1,λJ n=>?_⟩;have I:=qF (Sr H) (o:=.tup [.ty "list",.ty "tuple"]) n;have t:upd H J (.tup [.ty "list",.ty "tuple"]) J=some (.tup [.ty "list",.ty "tuple"]):=qc;have j:=hl.same I;have ad:l≠J:=hl.elim (λe=>qq e n) λe=>qq e n;generalize upd H J (.tup [.ty "list",.ty "tuple"])=H1 at I t j ⊢;apply seq_isi j t ?_;apply yo ?_;apply seq_len j ?_;apply .inl (.inl (.inl ⟨rfl,rfl,?_⟩));apply yo ?_;apply seq_ix j (show atI [r,v] 0=some r from rfl) ?_;ext;intro x dx A S Y;have B:=I.free A;have sG:L2.Same H1 (upd (upd H1 dx (.own x)) x (.ins (cc 10) dx [])):=qF (qF (Sr H1) S) (by rw[qh Y.symm];show A);have Z:upd (upd H1 dx (.own x)) x (.ins (cc 10) dx []) x=some (.ins (cc 10) dx []):=qc;generalize upd (upd H1 dx (.own x)) x (.ins (cc 10) dx [])=G at sG Z ⊢;have s:=I.trans sG;rcases hc with⟨W,m,O⟩ | ⟨st,W,z,ab,m,O⟩
  .have N:r=v:=by
    rcases hl with a | a<;>rcases W with c | c<;>(rw[a] at c;cases c;try rfl)
   subst N;show .inr ⟨x,b,q,k,ss,ns,r,rfl,R.same s,hv.same s,m,O.later s⟩
  .have N:r=.str st:=by
    rcases hl with a | a<;>rcases W with c | c<;>(rw[a] at c;cases c;try rfl)
   subst N;show .inl ⟨x,dx,b,st,ss,ns,rfl,Z,R.same s,z,λp H2 b2 U g=>⟨rfl,?_⟩⟩;have aa:=s.free U;have s3:L2.Same H H2:=qbt s b2 B;apply seq_tl (hl.same s3) λd H4 C hd X=>?_;have s4:=s3.trans C;replace g:=g.same C;apply seq_for X (λi σ H'=>H'=H4/\i=0/\∃ x3,σ=[some (.ref b),some (.ref l),some (.ref x),x3]) ⟨rfl,rfl,none,rfl⟩ (λi σ H' u _ e=>by rw[u.1];show e) (λi y σ H5 hy u=>?_) fun σ H5 u=>absurd u.2.1 (by simp);obtain⟨rfl,rfl,x3,rfl⟩:=u;cases hy;ext;obtain⟨L,M,_,_⟩:=id g;show⟨x,L,_,rfl,M,qR,?_⟩;apply .inr ⟨x,b,p,q,k,ss,ns,[st],st,v,rfl,g,rfl,z,hv.same s4,m,O.later s4⟩
end
theorem K5:FnScope ["_law_names_here","_law_pick","_law_things"] wqI (qd j7):=fS
theorem sadd{a b:Str}{Q:VK}(h:a.length+b.length<=1000)(q:Q (.str (a++b)) H):qdh K (.str a) (.str b) H Q:=⟨yh h (by decide),q⟩
theorem qe1(h:jG s=true):s.cps.toList≠[]/\32∉s.cps.toList/\62∉s.cps.toList:=by
 unfold jG at h;split at h
 .rename_i hl
  show⟨λe=>?_,λm=>?_,λm=>?_⟩
  .have:=hl.1;have a:s.length=0:=by unfold Str.length;rw[<- xy,e];rfl
   lk
  .have:=Yo.mp h _ m;revert this;decide
  .have:=Yo.mp h _ m;revert this;decide
 .cases h
structure BadT(tb:Addr)(H H':Hp)(v:V):Prop where
 th:Th tb H' 2 v
 nm:∀ u,v=.str u->jG u=false/\u.length<=1000/\62∉u.cps.toList
 it:∀ i,v=.int i->i=0\/i=10 ^ 30
 fr:∀ a,v=.ref a->H a=none
theorem BadT.same(h:BadT tb H H' v)(s:L2.Same H' H2):BadT tb H H2 v:=⟨h.th.same s,h.nm,h.it,h.fr⟩
theorem jl_sub(c:LQ):∀{x y:LQ} {r:List (LQ)} {k:Nat},k∈c->k∈jl c (x::y::r):=λ{x y r k} h=>by
 show k∈x++c++jl c (y::r);show YO _ (yE _ h)
theorem wd_one(h:62∉z.cps.toList)(c:(wdS z)[0]?=some u):u=z:=by
 have e:=StrLaws.join_split z " > ";have d:=qdo " > " (Txt.split z " > ");rw[e] at d;unfold wdS at c
 cases q:Txt.split z " > " with
 | nil=>rw[q] at c;cases c
 | cons a r =>
  rw[q] at c e d;cases c
  cases r with
  | nil=>show e
  | cons b r=>show absurd (by rw[d];show jl_sub _ (by room)) h
def sWith(s:Stmt)(a:List Expr):Stmt:=match s with
 | .Assign t (.List _ lp) p=>.Assign t (.List a lp) p
 | s=>s
abbrev qhR(s:Stmt)(i:Nat):Stmt:=(jJ s).getD i (.Pass ⟨0,0,0,0⟩)
abbrev tN0(K:W.Frag):TE:=tOp (qfH K) (qfc 0) (tC (.int 0))
theorem thing_parts:∃ d,jJ j7=[sWith (qhR j7 0) d,qhR j7 1]/\∀(env:Env) (a:Expr->TE->Prop) (c:List Expr->TA->Prop),
  (∀ j pos,a (.Constant .none j pos) (tC .non))->(∀ i j pos,a (.Constant (.int i) j pos) (tC (.int i)))->(∀ b j pos,a (.Constant (.bool b) j pos) (tC (.bl b)))->(∀ x j pos,a (.Constant (.str x) j pos) (tC (.str x))) ->
  (∀ d pos t,c d t->a (.List d pos) (qft t))->(∀ d z pos t,c d t->a (.Tuple d z pos) (qgu t))->(∀ pos,a (.Dict [] [] pos) qey) ->
  (∀ v j w y,a (.Subscript (.Name "_law_names_here" v) (.Constant (.int 0) j w) y) (tN0 K))->(∀ e f pos g m,a e g->a f m->a (.BinOp e .Add f pos) (tOp (qdh K) g m))->(∀ e f pos g m,a e g->a f m->a (.BinOp e .Pow f pos) (tOp (rI qgq λi j=>.int (i ^ j.toNat)) g m))->c [] qc7 ->
  (∀ e d g t,a e g->c d t->starEach (e::d) env=(false,eval e env)::starEach d env->c (e::d) (j3 g t)) ->
  c d (j3 (tC .non) (j3 (tC (.bl true)) (j3 (tC (.int 0)) (j3 (tC (.str "")) (j3 (tC (.str "A")) (j3 (tC (.str "zz9")) (j3 (qft (j3 (tN0 K) qc7)) (j3 (qgu (j3 (tN0 K) qc7)) (j3 qey (j3 (tOp (qdh K) (tN0 K) (tC (.str " "))) (j3 (tC (.str "abcdefg")) (j3 (qft qc7) (j3 (tOp (rI qgq λi j=>.int (i ^ j.toNat)) (tC (.int 10)) (tC (.int 30))) (j3 (qft (j3 (qft qc7) qc7)) qc7)))))))))))))):=
 ⟨_,rfl,λenv a c r n hb l hl u q o p s h hc=>hc _ _ _ _ (r _ _) (hc _ _ _ _ (hb _ _ _) (hc _ _ _ _ (n _ _ _) (hc _ _ _ _ (l _ _ _) (hc _ _ _ _ (l _ _ _) (hc _ _ _ _ (l _ _ _) (hc _ _ _ _ (hl _ _ _ (hc _ _ _ _ (o _ _ _ _) h rfl)) (hc _ _ _ _ (u _ _ _ _ (hc _ _ _ _ (o _ _ _ _) h rfl)) (hc _ _ _ _ (q _) (hc _ _ _ _ (p _ _ _ _ _ (o _ _ _ _) (l _ _ _)) (hc _ _ _ _ (l _ _ _) (hc _ _ _ _ (hl _ _ _ h) (hc _ _ _ _ (s _ _ _ _ _ (n _ _ _) (n _ _ _)) (hc _ _ _ _ (hl _ _ _ (hc _ _ _ _ (hl _ _ _ h) h rfl)) h rfl) rfl) rfl) rfl) rfl) rfl) rfl) rfl) rfl) rfl) rfl) rfl) rfl) rfl⟩
def qhS(tb:Addr):Sp:=λvs H Q _=>∃(n:Addr) (ss:LN) (a:Int),vs=[.ref n,.int a]/\H n=some (.lst (ss.map V.str))/\ss≠[]/\(∀ s∈ss,jG s=true)/\(∃ o,H tb=some o)/\0<=a/\∀ v H',L2.Same H H'->BadT tb H H' v->Q v H'
section
variable{P:Program}{w:World}{K:W.Frag}{mg:Str->Option Value}{base:Heap}{cc:Nat->Addr}{cw tb:Addr}
theorem ok_tg(F:Fun K "_law_thing" "_law_thing" j7 f fd)(T:Txt K mg cc cw):wqY 1 f fd wqI (qhS tb):=by
 show F.ok K5 (λvs H Q E h=>?_) λ_ A _ s H vs Q E hr h=>?_
 .obtain⟨n,ss,g,rfl,_⟩:=h;rfl
 .obtain⟨n,ss,g,rfl,hn,ah,ai,⟨am,aj⟩,h0,q⟩:=h;have hu:=zT hr;obtain⟨ak,N,ag⟩:=thing_parts (K:=K);rw[N];show⟨_,(qe (qx (i:=2) K5.nd rfl (yJ rfl) (qy (ag _ _ _ (λ_ _=>qek) (λ_ _ _=>qg) (λ_ _ _=>qcv) (λ_ _ _=>jN) (λ_ _ _ h=>qy h) (λ_ _ _ _ h=>qV h) (λ_=>qcc) (λ_ _ _ _=>qG (qH (K:=K) rfl hu) (pv 0) qg (λ_ _=>rfl)) (λ_ _ _ _ _ h1 G=>qD (qaP (K:=K) rfl) h1 G) (λ_ _ _ _ _ h1 G=>qD qfr h1 G) qb λ_ _ _ _ ha hr hs=>qa ha hr hs)))
 (qf (qm (qG (qH (K:=K) rfl hu) (pv 2) (qD jH (pv 1) (qi (zo (K:=K) rfl) rfl T.b_len YH (qa (pv 2) qb))) (λ_ _=>rfl))))),?_⟩
  cases ss with
  | nil=>show absurd rfl ah
  | cons d ss =>
  have p:jG d=true:=ai d yC
  have al:d.length<=6:=by
   unfold jG at p;split at p
   .rename_i hl;show hl.2
   .cases p
  have ix:∀{H':Hp} {Q':VK},L2.Same H H'->Q' (.str d) H'->qfH K (.ref n) (.int 0) H' Q':=λ{H' Q'} s' k=>.inl (qbF (s' _ _ hn) (qW (show((d::ss).map V.str)[0]?=some (V.str d) from rfl)) k);apply ix (Sr H) ?_;apply⟨wq0,λX h1=>?_⟩;have s1:=qF (Sr H) (o:=.lst [.str d]) h1;have j:upd H X (.lst [.str d]) X=some (.lst [.str d]):=qc;generalize upd H X (.lst [.str d])=H1 at s1 j ⊢;apply ix s1 ?_;apply⟨wq0,λY G=>?_⟩;have aa:=s1.free G;have U:=qF (Sr H1) (o:=.tup [.str d]) G;have l:upd H1 Y (.tup [.str d]) Y=some (.tup [.str d]):=qc;generalize upd H1 Y (.tup [.str d])=H2 at U l ⊢;replace j:=U _ _ j;replace U:=s1.trans U;ext;intro Z h3;have ab:=U.free h3;have J:=qF (Sr H2) (o:=.dK []) h3;have D:upd H2 Z (.dK []) Z=some (.dK []):=qc;generalize upd H2 Z (.dK [])=H3 at J D ⊢;replace j:=J _ _ j;replace l:=J _ _ l;replace J:=U.trans J;apply ix J ?_;apply sadd (by show d.length+1<=1000;lk) ?_;ext;apply⟨YX _,λa4 h4=>?_⟩;have ac:=J.free h4;have L:=qF (Sr H3) (o:=.lst []) h4;have R:upd H3 a4 (.lst []) a4=some (.lst []):=qc;generalize upd H3 a4 (.lst [])=H4 at L R ⊢;replace j:=L _ _ j;replace l:=L _ _ l;replace D:=L _ _ D;replace L:=J.trans L;apply⟨10,30,rfl,rfl,by unfold qgq;decide,?_⟩;apply⟨YX _,λM h5=>?_⟩;have af:=L.free h5;have B:=qF (Sr H4) (o:=.lst []) h5;have e5:upd H4 M (.lst []) M=some (.lst []):=qc;generalize upd H4 M (.lst [])=H5 at B e5 ⊢;replace j:=B _ _ j;replace l:=B _ _ l;replace D:=B _ _ D;replace R:=B _ _ R;replace B:=L.trans B;apply⟨wq0,λa6 h6=>?_⟩;have ad:=B.free h6;have C:=qF (Sr H5) (o:=.lst [.ref M]) h6;have e6:upd H5 a6 (.lst [.ref M]) a6=some (.lst [.ref M]):=qc;generalize upd H5 a6 (.lst [.ref M])=W at C e6 ⊢;replace j:=C _ _ j;replace l:=C _ _ l;replace D:=C _ _ D;replace R:=C _ _ R;replace e5:=C _ _ e5;replace C:=B.trans C;apply⟨by show 14<=sizeLine;decide,λa7 h7=>?_⟩;generalize O:[V.non,.bl true,.int 0,.str "",.str "A",.str "zz9",.ref X,.ref Y,.ref Z,.str (d++" "),.str "abcdefg",.ref a4,.int (10 ^ 30),.ref a6]=c;have I:c.length=14:=by rw[<- O];rfl
  have ae:∀ y∈c,∀ H',L2.Same W H'->BadT tb H H' y:=λy hy H' s'=>by
   have S:∀{a:Addr},H a=none->a≠tb:=λ{a} h z=>by rw[z,aj] at h;cases h
   have m:∀{v:V},qM v=true->(∀ u,v=.str u->jG u=false/\u.length<=1000/\62∉u.cps.toList)->(∀ i,v=.int i->i=0\/i=10 ^ 30)->BadT tb H H' v:=λ{v} hf h1 G=>⟨.flat hf λs e=>yh (h1 s e).2.1 (by decide),h1,G,λa e=>by subst e;cases hf⟩;have rf:∀{a:Addr},H a=none->Th tb H' 2 (.ref a)->BadT tb H H' (.ref a):=λ{a} h t=>⟨t,(λu e=>by cases e),(λi e=>by cases e),λb e=>by cases e;show h⟩;rw[<- O] at hy;simp only[yt,yv,yN] at hy;rcases hy with rfl | rfl | rfl | rfl | rfl | rfl | rfl | rfl | rfl | rfl | rfl | rfl | rfl | rfl
   .show m rfl (λu e=>by cases e) λi e=>by cases e
   .show m rfl (λu e=>by cases e) λi e=>by cases e
   .show m rfl (λu e=>by cases e) λi e=>by cases e;show .inl rfl
   .show m rfl (λu e=>by cases e;room) λi e=>by cases e
   .show m rfl (λu e=>by cases e;room) λi e=>by cases e
   .show m rfl (λu e=>by cases e;room) λi e=>by cases e
   .show rf h1 (.lst (s' _ _ j) (S h1) (λx r=>by rw[yA.mp r];show .flat rfl λs e=>by cases e;lk) (by show 1<=1000;decide))
   .show rf aa (.tup (s' _ _ l) (S aa) (λx r=>by rw[yA.mp r];show .flat rfl λs e=>by cases e;lk) (by show 1<=1000;decide))
   .show rf ab (.dct (s' _ _ D) (S ab))
   .show m rfl (λu e=>?_) λi e=>by cases e
    cases e;have el:(d++(" ":Str)).cps.toList=d.cps.toList++[32]:=by rw[qcj];rfl
    show⟨?_,?_,?_⟩
    .cases q2:jG (d++" ") with
     | false=>rfl
     | true=>show absurd (by rw[el];simp) (qe1 q2).2.1
    .have:(d++(" ":Str)).length=d.length+1:=by rw[Str.length_append];rfl
     lk
    .rw [el];intro hm;rcases Yj.mp hm with hm | hm
     .show(qe1 p).2.2 hm
     .revert hm;decide
   .show m rfl (λu e=>by cases e;room) λi e=>by cases e
   .show rf ac (.lst (s' _ _ R) (S ac) (λx r=>by cases r) (by decide))
   .show m rfl (λu e=>by cases e) λi e=>by cases e;show .inr rfl
   .show rf ad (.lst (s' _ _ e6) (S ad) (λx r=>by rw[yA.mp r];show .lst (s' _ _ e5) (S af) (λx r=>by cases r) (by decide)) (by show 1<=1000;decide))
  ext;show qcd K [V.ref a7] (upd W a7 (.lst [V.non,.bl true,.int 0,.str "",.str "A",.str "zz9",.ref X,.ref Y,.ref Z,.str (d++" "),.str "abcdefg",.ref a4,.int (10 ^ 30),.ref a6])) _;rw[O];have s7:=qF (Sr W) (o:=.lst c) h7;have e7:upd W a7 (.lst c) a7=some (.lst c):=qc;generalize upd W a7 (.lst c)=H7 at s7 e7 ⊢;show qbG e7 ?_;rw[I];show⟨g,14,rfl,rfl,by show(0:Int)<14;decide,?_⟩;have b0:=yY g (show(14:Int)≠0 by decide);have b1:=yR g (show(0:Int)<14 by decide);obtain⟨y,iy,hy⟩:=qb2 (xs:=c) b0 (by rw[I];show b1);show .inl (qbF e7 iy (q y H7 (C.trans s7) (ae y (ye hy) H7 s7)))
end
theorem KE:FnScope ["_law_deed","e","_law_kinds_here"] wqO (qd qa6):=fS
theorem Kn:FnScope ["_law_deed","e"] wqO (qd qbv):=fS
def RzO(cc:Nat->Addr)(H:Hp)(E:XK)(i:Nat):Option V->Prop
 | some v=>Rz cc H E (i,v)
 | none=>∀ H',L2.Same H H'->E (.ref (cc i)) none H'
def kdN(i:Nat):Nat:=if i=2 then 0 else if i=5 then 1 else if i=8 then 2 else if i=7 then 3 else 4
def kdL(i:Nat)(o:Option V):List V:=V.int (kdN i:Int)::o.toList
def qgi(i:Nat)(o:Option V):Prop:=(o=none/\i=6)\/(o≠none/\(i=2\/i=5\/i=8\/i=7))
def kdB(i:Nat):List V:=[2,5,8,7,6,0,3,4].map λj=>V.bl (decide (i=j))
section
variable(P:Program)(w:World)(K:W.Frag)(mg:Str->Option Value)(base:Heap)(cc:Nat->Addr)
def qhT:Sp:=λvs H Q _=>∃(f i:Nat) (o:Option V),vs=[.ref f]/\qgi i o/\qc8 P w K mg base 16 H f (λE=>RzO cc H E i o)/\∀(r:Addr) (H':Hp),L2.Same H H'->H r=none->H' r=some (.lst (kdB i))->Q (.ref r) H'
def qhU:Sp:=λvs H Q _=>∃(f i:Nat) (o:Option V),vs=[.ref f]/\qgi i o/\qc8 P w K mg base 16 H f (λE=>RzO cc H E i o)/\∀(r:Addr) (H':Hp),L2.Same H H'->H r=none->H' r=some (.lst (kdL i o))->Q (.ref r) H'
end
theorem ok_ki(F:Fun K "_law_kinds" "_law_kinds" qa6 f fd)(T:Txt K mg cc cw):wqY 17 f fd wqO (qhT P w K mg base cc):=by
 show F.ok KE (λvs H Q E h=>?_) λ_ _ _ _ H vs Q E M h=>?_
 .obtain⟨f,i,o,rfl,_⟩:=h;rfl
 .obtain⟨J,i,o,rfl,U,R,q⟩:=h;have Y:=zT M;show⟨_,(qe (qfF rfl rfl rfl qu)
 (qf (qm (qy qb)))),?_⟩
  apply⟨fun σ c s H'=>c=.ref (cc i)/\L2.Same H H'/\(o=none->s=none)/\(∀ v,o=some v->∃ l,s=some l/\H' l=some (.xd [(qam i,v)]))/\σ=[some (.ref J),none,none],_,λpn xe qp=>(qf (qB (qeM (P:=P) (w:=w) (K:=K) (mg:=mg) (base:=base) (k:=16) (i:=0) ⟨rfl,rfl,rfl,rfl,rfl⟩ rfl (yJ rfl) (hmR M) qp))),?_,λa C p W H' S x=>?_⟩
  .ext;show⟨J,_,rfl,R,?_⟩
   cases o with
   | none=>show λH' s'=>⟨rfl,s',λ_=>rfl,(λv e=>by cases e),rfl⟩
   | some v=>show λl H' s' B=>⟨rfl,s',(λe=>by cases e),(λu e=>by cases e;show⟨l,rfl,B⟩),rfl⟩
  .obtain⟨hc,N,y,hv,rfl⟩:=S;cases hc;have g:i<9:=by rcases U with⟨_,rfl⟩ | ⟨_,rfl | rfl | rfl | rfl⟩<;>decide
   show⟨_,(qeF (K:=K) rfl KE.nd (i:=1) rfl rfl rfl T.m_OnceError (qe (qx (i:=2) KE.nd rfl (yJ rfl) (qy (qa (qi (zb (K:=K) rfl) rfl T.b_isinstance yO (qa (pv 1) (qa (zv (v:=.ref (cc 2)) rfl T.m_NoPlace rfl) qb))) (qa (qi (zb (K:=K) rfl) rfl T.b_isinstance yO (qa (pv 1) (qa (zv (v:=.ref (cc 5)) rfl T.m_NoMove rfl) qb))) (qa (qi (zb (K:=K) rfl) rfl T.b_isinstance yO (qa (pv 1) (qa (zv (v:=.ref (cc 8)) rfl T.m_NoNumbers rfl) qb))) (qa (qi (zb (K:=K) rfl) rfl T.b_isinstance yO (qa (pv 1) (qa (zv (v:=.ref (cc 7)) rfl T.m_NoText rfl) qb))) qb))))))
 (qe (qB (qeb (K:=K) rfl yH PySem.F.slot_list_extend PySem.F.type_list_extend qb4 (pv 2) (qa (qy (qa (qi (zb (K:=K) rfl) rfl T.b_isinstance yO (qa (pv 1) (qa (zv (v:=.ref (cc 6)) rfl T.m_NoBack rfl) qb))) (qa (qi (zb (K:=K) rfl) rfl T.b_isinstance yO (qa (pv 1) (qa (zv (v:=.ref (cc 0)) rfl T.m_NoName rfl) qb))) (qa (qi (zb (K:=K) rfl) rfl T.b_isinstance yO (qa (pv 1) (qa (zv (v:=.ref (cc 3)) rfl T.m_NoTie rfl) qb))) (qa (qi (zb (K:=K) rfl) rfl T.b_isinstance yO (qa (pv 1) (qa (zv (v:=.ref (cc 4)) rfl T.m_TooMany rfl) qb))) qb))))) qb)))
 (qf (qm (pv 2))))) qfE),?_⟩
   show⟨true,T.mroO i g,T.xat 9 (by decide),T.xat i (by lk),qbB ?_⟩
   have D:TyX K H' (.ref a) (.ref (cc i)):=.inr ⟨a,cc i,p,rfl,rfl,.inr x,T.xat i (by lk),λd z=>by
    cases o with
    | none=>rw[y rfl] at z;cases z
    | some v=>obtain⟨l,e,B⟩:=hv v rfl;rw[e] at z;cases z;show⟨_,B⟩⟩
   apply qaV D rfl (T.kit i 2 g (by decide)) ?_;apply qaV D rfl (T.kit i 5 g (by decide)) ?_;apply qaV D rfl (T.kit i 8 g (by decide)) ?_;apply qaV D rfl (T.kit i 7 g (by decide)) ?_;apply⟨wq2,λr A=>?_⟩;have j:=N.free A;have n:=qF (Sr H') (o:=.lst [V.bl (decide (i=2)),V.bl (decide (i=5)),V.bl (decide (i=8)),V.bl (decide (i=7))]) A;have G:upd H' r (.lst [V.bl (decide (i=2)),V.bl (decide (i=5)),V.bl (decide (i=8)),V.bl (decide (i=7))]) r=some (.lst [V.bl (decide (i=2)),V.bl (decide (i=5)),V.bl (decide (i=8)),V.bl (decide (i=7))]):=qc
   have b:TyX K (upd H' r (.lst [V.bl (decide (i=2)),V.bl (decide (i=5)),V.bl (decide (i=8)),V.bl (decide (i=7))])) (.ref a) (.ref (cc i)):=.inr ⟨a,cc i,p,rfl,rfl,.inr (n _ _ x),T.xat i (by lk),λd z=>by
    cases o with
    | none=>rw[y rfl] at z;cases z
    | some v=>obtain⟨l,e,B⟩:=hv v rfl;rw[e] at z;cases z;show⟨_,n _ _ B⟩⟩
   generalize upd H' r (.lst [V.bl (decide (i=2)),V.bl (decide (i=5)),V.bl (decide (i=8)),V.bl (decide (i=7))])=H2 at n G b ⊢;replace n:=N.trans n;apply⟨.inl ⟨rfl,_,SqL.of G⟩,?_⟩;apply qaV b rfl (T.kit i 6 g (by decide)) ?_;apply qaV b rfl (T.kit i 0 g (by decide)) ?_;apply qaV b rfl (T.kit i 3 g (by decide)) ?_;apply qaV b rfl (T.kit i 4 g (by decide)) ?_;apply⟨wq2,λm L=>?_⟩;have O:=qF n (o:=.lst [V.bl (decide (i=6)),V.bl (decide (i=0)),V.bl (decide (i=3)),V.bl (decide (i=4))]) L;have t:=qF (Sr H2) (o:=.lst [V.bl (decide (i=6)),V.bl (decide (i=0)),V.bl (decide (i=3)),V.bl (decide (i=4))]) L _ _ G;have I:upd H2 m (.lst [V.bl (decide (i=6)),V.bl (decide (i=0)),V.bl (decide (i=3)),V.bl (decide (i=4))]) m=some (.lst [V.bl (decide (i=6)),V.bl (decide (i=0)),V.bl (decide (i=3)),V.bl (decide (i=4))]):=qc;generalize upd H2 m (.lst [V.bl (decide (i=6)),V.bl (decide (i=0)),V.bl (decide (i=3)),V.bl (decide (i=4))])=X at O t I ⊢;apply⟨r,m,_,_,rfl,rfl,t,I,by show 8<=sizeLine;decide,?_⟩;apply q r _ (O.put j) j qc
theorem ok_he(F:Fun K "_law_held" "_law_held" qbv f fd)(T:Txt K mg cc cw):wqY 17 f fd wqO (qhU P w K mg base cc):=by
 show F.ok Kn (λvs H Q E h=>?_) λ_ _ _ _ H vs Q E t h=>?_
 .obtain⟨f,i,o,rfl,_⟩:=h;rfl
 .obtain⟨s,i,o,rfl,n,y,q⟩:=h;have B:=zT t;show⟨_,(qe (qfF rfl rfl rfl qu)
 (qf (qm (qy qb)))),?_⟩
  apply⟨fun σ c m H'=>c=.ref (cc i)/\L2.Same H H'/\(∀ v,o=some v->∃ g,m=some g/\H' g=some (.xd [(qam i,v)]))/\σ=[some (.ref s),none],_,λpn xe qp=>(qf (qB (qeM (P:=P) (w:=w) (K:=K) (mg:=mg) (base:=base) (k:=16) (i:=0) ⟨rfl,rfl,rfl,rfl,rfl⟩ rfl (yJ rfl) (hmR t) qp))),?_,λa C x A H' z j=>?_⟩
  .ext;show⟨s,_,rfl,y,?_⟩
   cases o with
   | none=>show λH' s'=>⟨rfl,s',(λv e=>by cases e),rfl⟩
   | some v=>show λg H' s' l=>⟨rfl,s',(λu e=>by cases e;show⟨g,rfl,l⟩),rfl⟩
  .obtain⟨hc,d,hv,rfl⟩:=z;cases hc;show⟨_,(qeF (K:=K) rfl Kn.nd (i:=1) rfl rfl rfl T.m_NoPlace (qf (qm (qy (qa qg (qa (qK (K:=K) rfl (pv 1) rfl) qb))))) (qeF (K:=K) rfl Kn.nd (i:=1) rfl rfl rfl T.m_NoMove (qf (qm (qy (qa qg (qa (qK (K:=K) rfl (pv 1) rfl) qb))))) (qeF (K:=K) rfl Kn.nd (i:=1) rfl rfl rfl T.m_NoNumbers (qf (qm (qy (qa qg (qa (qK (K:=K) rfl (pv 1) rfl) qb))))) (qeF (K:=K) rfl Kn.nd (i:=1) rfl rfl rfl T.m_NoText (qf (qm (qy (qa qg (qa (qK (K:=K) rfl (pv 1) rfl) qb))))) (ph_no (K:=K) rfl rfl T.m_NoBack (qf (qm (qy (qa qg qb)))) qfE))))),?_⟩;rcases n with⟨rfl,rfl⟩ | ⟨p,n⟩
   .show⟨false,T.mr 6 2 (by decide) (by decide),T.xat 2 (by decide),T.xat 6 (by decide),qU (λh=>by cases h) λ_=>?_⟩;show⟨false,T.mr 6 5 (by decide) (by decide),T.xat 5 (by decide),T.xat 6 (by decide),qU (λh=>by cases h) λ_=>?_⟩;show⟨false,T.mr 6 8 (by decide) (by decide),T.xat 8 (by decide),T.xat 6 (by decide),qU (λh=>by cases h) λ_=>?_⟩;show⟨false,T.mr 6 7 (by decide) (by decide),T.xat 7 (by decide),T.xat 6 (by decide),qU (λh=>by cases h) λ_=>?_⟩;show⟨true,T.mr 6 6 (by decide) (by decide),T.xat 6 (by decide),T.xat 6 (by decide),qbB ?_⟩;apply⟨wq0,λr b=>?_⟩;apply q r _ (qF d b) (d.free b) qc
   .obtain⟨v,rfl⟩:=Option.ne_none_iff_exists'.mp p;obtain⟨g,rfl,l⟩:=hv v rfl;rcases n with rfl | rfl | rfl | rfl
    .show⟨true,T.mr 2 2 (by decide) (by decide),T.xat 2 (by decide),T.xat 2 (by decide),qbB ?_⟩;apply .inr ⟨a,cc 2,g,_,v,rfl,.inr j,T.xat 2 (by decide),T.na 2 (by decide),l,rfl,?_⟩;apply⟨wq1,λr b=>?_⟩;apply q r _ (qF d b) (d.free b) qc
    .show⟨false,T.mr 5 2 (by decide) (by decide),T.xat 2 (by decide),T.xat 5 (by decide),qU (λh=>by cases h) λ_=>?_⟩;show⟨true,T.mr 5 5 (by decide) (by decide),T.xat 5 (by decide),T.xat 5 (by decide),qbB ?_⟩;apply .inr ⟨a,cc 5,g,_,v,rfl,.inr j,T.xat 5 (by decide),T.na 5 (by decide),l,rfl,?_⟩;apply⟨wq1,λr b=>?_⟩;apply q r _ (qF d b) (d.free b) qc
    .show⟨false,T.mr 8 2 (by decide) (by decide),T.xat 2 (by decide),T.xat 8 (by decide),qU (λh=>by cases h) λ_=>?_⟩;show⟨false,T.mr 8 5 (by decide) (by decide),T.xat 5 (by decide),T.xat 8 (by decide),qU (λh=>by cases h) λ_=>?_⟩;show⟨true,T.mr 8 8 (by decide) (by decide),T.xat 8 (by decide),T.xat 8 (by decide),qbB ?_⟩;apply .inr ⟨a,cc 8,g,_,v,rfl,.inr j,T.xat 8 (by decide),T.na 8 (by decide),l,rfl,?_⟩;apply⟨wq1,λr b=>?_⟩;apply q r _ (qF d b) (d.free b) qc
    .show⟨false,T.mr 7 2 (by decide) (by decide),T.xat 2 (by decide),T.xat 7 (by decide),qU (λh=>by cases h) λ_=>?_⟩;show⟨false,T.mr 7 5 (by decide) (by decide),T.xat 5 (by decide),T.xat 7 (by decide),qU (λh=>by cases h) λ_=>?_⟩;show⟨false,T.mr 7 8 (by decide) (by decide),T.xat 8 (by decide),T.xat 7 (by decide),qU (λh=>by cases h) λ_=>?_⟩;show⟨true,T.mr 7 7 (by decide) (by decide),T.xat 7 (by decide),T.xat 7 (by decide),qbB ?_⟩;apply .inr ⟨a,cc 7,g,_,v,rfl,.inr j,T.xat 7 (by decide),T.na 7 (by decide),l,rfl,?_⟩;apply⟨wq1,λr b=>?_⟩;apply q r _ (qF d b) (d.free b) qc
theorem Ka:FnScope wqh wqj (qd qj):=fS
def qgd:List Stmt->Expr
 | [.Return (some (.Tuple (e::_) _ _)) _]=>e
 | _::r=>qgd r
 | []=>.Constant .none 0 ⟨0,0,0,0⟩
def qge(j:Nat):Expr:=match (jJ qj).getD (if j=8 then 9 else j) (.Pass ⟨0,0,0,0⟩) with
 | .If _ b _ _=>qgd b
 | s=>qgd [s]
def qfl(j:Nat):Arguments:=match qge j with
 | .Lambda a _ _ _=>a
 | _=>⟨[],[],none,[],[],none,[]⟩
def qfm(j:Nat):Expr:=match qge j with
 | .Lambda _ b _ _=>b
 | e=>e
def zU(j:Nat):Scope:=match qge j with
 | .Lambda _ _ s _=>s
 | _=>qd qj
abbrev qDr:Str:="_law_door"++".<locals>."++"<lambda>"
section
variable{cc:Nat->Addr}{H H2 H3 G:Hp}{cs:LX}{E:XK}{tb:Addr}
theorem qa7{o:Option V}(C:Cells H3 cs)(s:L2.Same (qaF H3 cs) G)(h:RzO cc H3 E i o):RzO cc G (qbJ H3 cs E) i o:=by
 have c:∀ H',L2.Same G H'->L2.Same H3 (qf4 H3 H' cs):=λH' s' b o e=>by
  by_cases z:b∈cs
  .rw [qeK z];show e
  .rw [jB z];show s' _ _ (s _ _ (by rw[jA z];show e))
 cases o with
 | none=>show λH' s' _=>h _ (c H' s')
 | some v=>show λdx H' s' a n=>h dx _ (c H' s') (by rw[jB (λz=>by rw[n dx z] at a;cases a)];show a)
theorem zQ(a:∀ c∈cs,H c=none)(d:zS tb H H3):zS tb H (qaF H3 cs):=λb o n e=>by
 rw[jA (λz=>by rw[a b z] at e;cases e)];show d b o n e
theorem WebAt.butT{ps:Array Value}(g:WebAt cw H x ss ns)(a:H tb=some (.tbl ps))(b:zS tb H H2):WebAt cw H2 x ss ns:=by
 obtain⟨dx,d,ol,n,h1,c,e,f,r⟩:=g;show⟨dx,d,ol,n,b _ _ (jx h1 a (by intro z;cases z)) h1,b _ _ (jx c a (by intro z;cases z)) c,b _ _ (jx e a (by intro z;cases z)) e,b _ _ (jx f a (by intro z;cases z)) f,r⟩
theorem PlayAt.butT{c:Addr}{ps:Array Value}(h:PlayAt cp cw H x c p ss ns tr)(a:H tb=some (.tbl ps))(b:zS tb H H2):PlayAt cp cw H2 x c p ss ns tr:=by
 obtain⟨dx,h1,d,e⟩:=h;show⟨dx,b _ _ (jx h1 a (by intro z;cases z)) h1,b _ _ (jx d a (by intro z;cases z)) d,e.butT a b⟩
theorem BadT.butT(h:BadT tb H0 H v)(b:zS tb H H2):BadT tb H0 H2 v:=⟨h.th.keep λc o n e=>b c o n e,h.nm,h.it,h.fr⟩
end
theorem BadT.place(h:BadT tb H0 H v)(hw:WOk ss ns):qI ss v=false:=by
 cases v with
 | str u =>
  have:=(h.nm u rfl).1;unfold qI
  first
  | (simp[qaA,this];done)
  | (cases e:decide (u∈ss) with
   | false=>simp[e]
   | true=>show absurd (hw.nm u (yj e)) (by rw[this];decide))
 | _=>rfl
theorem qdw{b:Nat}:∀{l:LN} {k:Nat},u∈inB l k b->u∈l
 | [],_,h=>by cases h
 | s::r,k,h=>by
  unfold inB at h;split at h
  .rcases yt.mp h with rfl | h
   .show yC
   .show yz _ (qdw h)
  .show yz _ (qdw h)
theorem qgX(h:u∈mvS ss ns tr z):u∈ss/\u∉tr:=by
 obtain⟨h1,a⟩:=yn.mp h;show⟨qdw h1,by simpa using a⟩
theorem BadT.move(h:BadT tb H0 H v)(hw:WOk ss ns):∀ u,v=.str u->u∉mvS ss ns tr z:=λu e a=>by
 have:=hw.nm u (qgX a).1;rw[(h.nm u e).1] at this;cases this
theorem gone_mv(h:u∈tr)(a:u∈mvS ss ns tr z):False:=(qgX a).2 h
theorem PlayAt.ok(h:PlayAt cp cw H x b p ss ns tr):WOk ss ns:=let ⟨_,_,_,hW⟩:=h;hW.ok
theorem qfT(hw:WOk ss ns)(h:st∈ss):st.length<=6:=by
 have:=hw.nm st h;unfold jG at this;split at this
 .rename_i hl;show hl.2
 .cases this
theorem qe2(hw:WOk ss ns)(h:st∈ss):st.length<=100000:=yh (qfT hw h) (by decide)
theorem qe3{n:Addr}{j:Int}{Q:VK}(c:H n=some (.lst (ss.map V.str)))(b:ss[j.toNat]?=some st)(a:0<=j)(q:Q (.str st) H):qfH K (.ref n) (.int j) H Q:=
 .inl (qbF c (by have:=qW (xs:=ss.map V.str) (j:=j.toNat) (v:=.str st) (by rw[yd,b];rfl);rwa[Int.toNat_of_nonneg a] at this) q)
section
variable{P:Program}{w:World}{K:W.Frag}{mg:Str->Option Value}{base:Heap}{cc:Nat->Addr}{cw tb:Addr}{H H0 H3:Hp}{cs:LX}{f b x p n:Addr}{ss tr:LN}{ns:LQ}{v:V}{ps:Array Value}{z st:Str}{j:Int}
theorem lamN0:LamN (zU 0) wqe:=qfi rfl rfl rfl (by room) (by room) (by room) (by room)
theorem deed0(T:Txt K mg cc cw)(p:MakeOk P w K mg base (CX1 P w) 5 (cc 10) "Play" wqi (qeZ cc cw))(m:WebAt cw H b ss ns)(l:BadT tb H0 H v)(h:H tb=some (.tbl ps))(C:Clo H3 f qDr (qfl 0) (qfm 0) (zU 0) wqe [.ref b,v] cs)(d:∀ c∈cs,H c=none)(q:zS tb H H3):qc8 P w K mg base 16 H3 f λE=>RzO cc H3 E 2 (some v):=by
 have n:=zQ d q;show jT C lamN0 (λ_ _ _=>rfl) λA a s j E g hw=>?_;have o:=g.deeper (W.envX qDr (zU 0) s.heap.objs.size f (.ref j) ((wqe:LN).zip cs));have u:=qaW o;have qp:XOk (qbe P w K mg base A a wqe qDr (zU 0) f j ((wqe:LN).zip cs) s (qaF H3 cs) (qbJ H3 cs E)) λ_=>qbJ H3 cs E:=zG;show⟨_,(qbn p (hmR o) qp (qa (pv 0) (qa (pv 1) qb))),?_⟩;ext;intro x dx r e t;have i:L2.Same (qaF H3 cs) (upd (upd (qaF H3 cs) dx (.own x)) x (.ins (cc 10) dx [])):=qF (qF (Sr _) e) (by rw[qh t.symm];show r);show .inr ⟨x,b,tb,2,ss,ns,v,rfl,(m.butT h n).same i,(l.butT n).th.same i,l.place m.ok,qa7 C.cells i hw⟩
theorem lamN1:LamN (zU 1) wqw:=qfi rfl rfl rfl (by room) (by room) (by room) (by room)
theorem deed1(T:Txt K mg cc cw)(u:MethOk P w K mg base (CX1 P w) 9 (cc 10) "go" wql (qe0 cc cw))(m:PlayAt (cc 10) cw H x b p ss ns tr)(t:tr.getLast?=some z)(i:z∈ss)(l:BadT tb H0 H v)(h:H tb=some (.tbl ps))(C:Clo H3 f qDr (qfl 1) (qfm 1) (zU 1) wqw [.ref x,v] cs)(e:∀ c∈cs,H c=none)(q:zS tb H H3):qc8 P w K mg base 16 H3 f λE=>RzO cc H3 E 5 (some v):=by
 have n:=zQ e q;show jT C lamN1 (λ_ _ _=>rfl) λA a s j E g hw=>?_;have o:=g.deeper (W.envX qDr (zU 1) s.heap.objs.size f (.ref j) ((wqw:LN).zip cs));have y:=qaW o;have qp:XOk (qbe P w K mg base A a wqw qDr (zU 1) f j ((wqw:LN).zip cs) s (qaF H3 cs) (qbJ H3 cs E)) λ_=>qbJ H3 cs E:=zG;show⟨_,(zE u (hmR o) qp (pv 0) (qa (pv 1) qb)),?_⟩;ext;have d:=m.butT h n;obtain⟨dx,r,_,_⟩:=id d;show⟨x,dx,_,rfl,r,qR,?_⟩;apply .inr ⟨x,b,p,tb,2,ss,ns,tr,z,v,rfl,d,t,i,(l.butT n).th,l.move m.ok,qa7 C.cells (Sr _) hw⟩
theorem lamN2:LamN (zU 2) wqf:=qfi rfl rfl rfl (by room) (by room) (by room) (by room)
theorem deed2(T:Txt K mg cc cw)(J:MethOk P w K mg base (CX1 P w) 9 (cc 10) "go" wql (qe0 cc cw))(t:PlayAt (cc 10) cw H x b p ss ns tr)(I:tr.getLast?=some z)(q:z∈ss)(B:H n=some (.lst (ss.map V.str)))(y:ss[j.toNat]?=some st)(i:0<=j)(m:st∈tr)(g:H tb=some (.tbl ps))(C:Clo H3 f qDr (qfl 2) (qfm 2) (zU 2) wqf [.int j,.ref x,.ref n] cs)(h:∀ c∈cs,H c=none)(F:zS tb H H3):qc8 P w K mg base 16 H3 f λE=>RzO cc H3 E 5 (some (.str st)):=by
 have v:=zQ h F;show jT C lamN2 (λ_ _ _=>rfl) λA a s r E l hw=>?_;have D:=l.deeper (W.envX qDr (zU 2) s.heap.objs.size f (.ref r) ((wqf:LN).zip cs));have o:=qaW D;have qp:XOk (qbe P w K mg base A a wqf qDr (zU 2) f r ((wqf:LN).zip cs) s (qaF H3 cs) (qbJ H3 cs E)) λ_=>qbJ H3 cs E:=zG;show⟨_,(zE J (hmR D) qp (pv 1) (qa (qG (qH (K:=K) rfl o) (pv 2) (pv 0) (λ_ _=>rfl)) qb)),?_⟩;ext;have d:=t.butT g v;obtain⟨dx,G,_,_⟩:=id d;show⟨x,dx,_,rfl,G,qR,?_⟩;apply qe3 (v _ _ (jx B g (by intro z;cases z)) B) y i ?_;apply .inr ⟨x,b,p,tb,2,ss,ns,tr,z,.str st,rfl,d,I,q,.flat rfl (λs e=>by cases e;show qe2 t.ok (ye y)),λu e o=>by cases e;show gone_mv m o,qa7 C.cells (Sr _) hw⟩
theorem lamN3:LamN (zU 3) wqe:=qfi rfl rfl rfl (by room) (by room) (by room) (by room)
theorem deed3(T:Txt K mg cc cw)(r:DefOk P w K mg base (CX1 P w) 10 "played" wqQ (qd6 cc cw))(n:WebAt cw H b ss ns)(d:BadT tb H0 H v)(i:H tb=some (.tbl ps))(C:Clo H3 f qDr (qfl 3) (qfm 3) (zU 3) wqe [.ref b,v] cs)(g:∀ c∈cs,H c=none)(t:zS tb H H3):qc8 P w K mg base 16 H3 f λE=>RzO cc H3 E 2 (some v):=by
 have p:=zQ g t;show jT C lamN3 (λ_ _ _=>rfl) λA a s m E h hw=>?_;have q:=h.deeper (W.envX qDr (zU 3) s.heap.objs.size f (.ref m) ((wqe:LN).zip cs));have x:=qaW q;have qp:XOk (qbe P w K mg base A a wqe qDr (zU 3) f m ((wqe:LN).zip cs) s (qaF H3 cs) (qbJ H3 cs E)) λ_=>qbJ H3 cs E:=zG;show⟨_,(zD r (hmR q) qp (qa (pv 0) (qa (qy (qa (pv 1) (qa (pv 1) qb))) qb))),?_⟩;apply⟨wq1,λl hl=>?_⟩;have j:=qF (L2.Same.refl (qaF H3 cs)) (o:=.lst [v,v]) hl;have u:upd (qaF H3 cs) l (.lst [v,v]) l=some (.lst [v,v]):=qc;apply⟨b,l,tb,2,ss,ns,v,rfl,(n.butT i p).same j,(d.butT p).th.same j,λs e=>(d.nm s e).2.1,.inl ⟨.inl u,d.place n.ok,qa7 C.cells j hw⟩⟩
theorem lamN4:LamN (zU 4) wqd:=qfi rfl rfl rfl (by room) (by room) (by room) (by room)
theorem deed4(T:Txt K mg cc cw)(B:DefOk P w K mg base (CX1 P w) 10 "played" wqQ (qd6 cc cw))(h:WebAt cw H b ss ns)(g:BadT tb H0 H v)(x:H n=some (.lst (ss.map V.str)))(p:ss[j.toNat]?=some st)(q:0<=j)(d:H tb=some (.tbl ps))(C:Clo H3 f qDr (qfl 4) (qfm 4) (zU 4) wqd [.ref b,.int j,.ref n,v] cs)(m:∀ c∈cs,H c=none)(D:zS tb H H3):qc8 P w K mg base 16 H3 f λE=>RzO cc H3 E 5 (some v):=by
 have i:=zQ m D;show jT C lamN4 (λ_ _ _=>rfl) λA a s u E r hw=>?_;have y:=r.deeper (W.envX qDr (zU 4) s.heap.objs.size f (.ref u) ((wqd:LN).zip cs));have G:=qaW y;have qp:XOk (qbe P w K mg base A a wqd qDr (zU 4) f u ((wqd:LN).zip cs) s (qaF H3 cs) (qbJ H3 cs E)) λ_=>qbJ H3 cs E:=zG;show⟨_,(zD B (hmR y) qp (qa (pv 0) (qa (qV (qa (qG (qH (K:=K) rfl G) (pv 2) (pv 1) (λ_ _=>rfl)) (qa (pv 3) qb))) qb))),?_⟩;apply qe3 (i _ _ (jx x d (by intro z;cases z)) x) p q ?_;apply⟨wq1,λl hl=>?_⟩;have t:=qF (L2.Same.refl (qaF H3 cs)) (o:=.tup [.str st,v]) hl;have F:upd (qaF H3 cs) l (.tup [.str st,v]) l=some (.tup [.str st,v]):=qc;apply⟨b,l,tb,2,ss,ns,v,rfl,(h.butT d i).same t,(g.butT i).th.same t,λs e=>(g.nm s e).2.1,.inr ⟨st,.inr F,ye p,yh (qfT h.ok (ye p)) (by decide),g.move h.ok,qa7 C.cells t hw⟩⟩
theorem lamN5:LamN (zU 5) wqt:=qfi rfl rfl rfl (by room) (by room) (by room) (by room)
theorem qgY(T:Txt K mg cc cw)(j:DefOk P w K mg base (CX1 P w) 14 "rows_within" wqs (qgh cc 3))(hv:Th tb H 2 v)(d:qaE 0 3 v=false)(p:H tb=some (.tbl ps))(C:Clo H3 f qDr (qfl 5) (qfm 5) (zU 5) wqt [.ref x,v] cs)(b:∀ c∈cs,H c=none)(l:zS tb H H3):qc8 P w K mg base 16 H3 f λE=>RzO cc H3 E 8 (some v):=by
 have m:=zQ b l;show jT C lamN5 (λ_ _ _=>rfl) λA a s h E g hw=>?_;have i:=g.deeper (W.envX qDr (zU 5) s.heap.objs.size f (.ref h) ((wqt:LN).zip cs));have q:=qaW i;have qp:XOk (qbe P w K mg base A a wqt qDr (zU 5) f h ((wqt:LN).zip cs) s (qaF H3 cs) (qbJ H3 cs E)) λ_=>qbJ H3 cs E:=zG;show⟨_,(zD j (hmR i) qp (qa (pv 0) (qa (pv 1) qb))),?_⟩;apply⟨x,tb,2,v,rfl,hv.keep λc o n e=>m c o n e,d,qa7 C.cells (Sr _) hw⟩
theorem lamN6:LamN (zU 6) wqu:=qfi rfl rfl rfl (by room) (by room) (by room) (by room)
theorem qgZ(T:Txt K mg cc cw)(j:DefOk P w K mg base (CX1 P w) 14 "all_within" wqs (qgh cc 5))(hv:Th tb H 2 v)(d:qaE 0 5 v=false)(p:H tb=some (.tbl ps))(C:Clo H3 f qDr (qfl 6) (qfm 6) (zU 6) wqu [.ref x,v] cs)(b:∀ c∈cs,H c=none)(l:zS tb H H3):qc8 P w K mg base 16 H3 f λE=>RzO cc H3 E 8 (some v):=by
 have m:=zQ b l;show jT C lamN6 (λ_ _ _=>rfl) λA a s h E g hw=>?_;have i:=g.deeper (W.envX qDr (zU 6) s.heap.objs.size f (.ref h) ((wqu:LN).zip cs));have q:=qaW i;have qp:XOk (qbe P w K mg base A a wqu qDr (zU 6) f h ((wqu:LN).zip cs) s (qaF H3 cs) (qbJ H3 cs E)) λ_=>qbJ H3 cs E:=zG;show⟨_,(zD j (hmR i) qp (qa (pv 0) (qa (pv 1) qb))),?_⟩;apply⟨x,tb,2,v,rfl,hv.keep λc o n e=>m c o n e,d,qa7 C.cells (Sr _) hw⟩
theorem lamN7:LamN (zU 7) wqp:=qfi rfl rfl rfl (by room) (by room) (by room) (by room)
theorem deed7(T:Txt K mg cc cw)(m:DefOk P w K mg base (CX1 P w) 11 "read_play" wqE (qgc cc cw))(q:WebAt cw H b ss ns)(hv:Th tb H 2 v)(r:∀ z,v=.str z->z.length<=10000/\∀ u,(wdS z)[0]?=some u->u∉ss)(h:H tb=some (.tbl ps))(C:Clo H3 f qDr (qfl 7) (qfm 7) (zU 7) wqp [.ref b,v] cs)(d:∀ c∈cs,H c=none)(p:zS tb H H3):qc8 P w K mg base 16 H3 f λE=>RzO cc H3 E 7 (some (.int 0)):=by
 have j:=zQ d p;show jT C lamN7 (λ_ _ _=>rfl) λA a s i E g hw=>?_;have l:=g.deeper (W.envX qDr (zU 7) s.heap.objs.size f (.ref i) ((wqp:LN).zip cs));have t:=qaW l;have qp:XOk (qbe P w K mg base A a wqp qDr (zU 7) f i ((wqp:LN).zip cs) s (qaF H3 cs) (qbJ H3 cs E)) λ_=>qbJ H3 cs E:=zG;show⟨_,(zD m (hmR l) qp (qa (pv 0) (qa (pv 1) qb))),?_⟩;apply⟨b,tb,2,ss,ns,v,rfl,q.butT h j,hv.keep λc o n e=>j c o n e,r,qa7 C.cells (Sr _) hw⟩
theorem lamN8:LamN (zU 8) wqF:=qfi rfl rfl rfl (by room) (by room) (by room) (by room)
theorem deed8(T:Txt K mg cc cw)(l:MethOk P w K mg base (CX1 P w) 4 (cc 10) "back" wh (qga cc cw))(n:PlayAt (cc 10) cw H x b p ss ns [st])(h:H tb=some (.tbl ps))(C:Clo H3 f qDr (qfl 8) (qfm 8) (zU 8) wqF [.ref x] cs)(e:∀ c∈cs,H c=none)(m:zS tb H H3):qc8 P w K mg base 16 H3 f λE=>RzO cc H3 E 6 (none):=by
 have q:=zQ e m;show jT C lamN8 (λ_ _ _=>rfl) λA a s i E g hw=>?_;have j:=g.deeper (W.envX qDr (zU 8) s.heap.objs.size f (.ref i) ((wqF:LN).zip cs));have t:=qaW j;have qp:XOk (qbe P w K mg base A a wqF qDr (zU 8) f i ((wqF:LN).zip cs) s (qaF H3 cs) (qbJ H3 cs E)) λ_=>qbJ H3 cs E:=zG;show⟨_,(pe_meth0S l (hmR j) qp (pv 0)),?_⟩;ext;have d:=n.butT h q;obtain⟨dx,r,_,_⟩:=id d;show⟨x,dx,_,rfl,r,qR,?_⟩;apply⟨x,b,p,ss,ns,st,rfl,d,qa7 (o:=none) C.cells (Sr _) hw⟩
end
abbrev dN:LN:=wqh
abbrev dL(n:Addr)(x:Str):Option Addr:=(cellsFrom n (qd qj).names []).lookup x
theorem qcq{f:α->β}{xs:List α}{y:β}(h:(xs.map f)[i]?=some y):∃ x,xs[i]?=some x/\f x=y:=by
 rw[yd] at h;show Xi.mp h
theorem clo_end{n:Addr}{ns:LN}
  (inj:∀ x y c,dL n x=some c->dL n y=some c->x=y) (free:∀ x c,dL n x=some c->H c=none)
  (l:js.map (λj=>dN[j]?)=ns.map some) (m:js.map (λj=>σ[j]?)=vs.map λv=>some (some v)) (a:∀ x∈ns,dL n x=some (dcl n qj x)) (g:∀ x∈ns,(qd qj).names.lookup x=some .cell) (q:ns.Nodup)
  (z:∃ h s d,H f=some (FnO f (W.kla_obj "<lambda>" qDr params body scope (ns.zip (ns.map (dcl n qj))) s h d))/\H h=some (CdO h qDr)) :
  Clo (qcW (qd qj) (cellsFrom n (qd qj).names []) dN σ H) f qDr params body scope ns vs (ns.map (dcl n qj)):=by
 have old:L2.Same H (qcW (qd qj) (cellsFrom n (qd qj).names []) dN σ H):=λb o e=>qcm e free;have r:=congrArg List.length l;have w:=congrArg List.length m;rw[ya,ya] at r w;show⟨let ⟨h,s,d,e1,e2⟩:=z;⟨h,s,d,old _ _ e1,old _ _ e2⟩,ya ..,by rw[<- w,r],?_,λi c v h1 C=>?_⟩
 .show List.pairwise_map.mpr (q.imp_of_mem λ{x y} p E F e=>?_);show F (inj x y _ (a x p) (by rw[a y E,e]))
 .obtain⟨x,p,rfl⟩:=qcq h1;have u:=ye p;have D:i<js.length:=by rw[r];show(yc.mp p).1
  have t:js[i]?=some js[i]:=yb D
  have A:dN[js[i]]?=some x:=by
   have:(js.map λj=>dN[j]?)[i]?=(ns.map some)[i]?:=by rw[l]
   rw[yd,yd,t,p] at this;show yl this
  have B:σ[js[i]]?=some (some v):=by
   have:(js.map λj=>σ[j]?)[i]?=(vs.map λv=>some (some v))[i]?:=by rw[m]
   rw[yd,yd,t,C] at this;show yl this
  show endC_cell (by room) inj A B (g x u) (a x u)
section
variable(P:Program)(w:World)(K:W.Frag)(mg:Str->Option Value)(base:Heap)(cc:Nat->Addr)(cw tb:Addr)
def DrQ(H:Hp)(Q:VK):Prop:=∀(t f d:Addr) (i:Nat) (o:Option V) (H':Hp),zS tb H H'->TbA H' tb qDr->H t=none->H' t=some (.tup [.ref f,.ref d])->H d=none->H' d=some (.lst (kdL i o))->qgi i o->(∀ u,o=some u->qM u=true\/∃ a,u=.ref a) ->
 (∀ b,L2.Same H' b->qc8 P w K mg base 16 b f λE=>RzO cc b E i o)->Q (.ref t) H'
def qhV:Sp:=λvs H Q _=>∃(a j:Int) (b x p n:Addr) (v:V) (st z:Str) (ss tr:LN) (ns:LQ) (H0:Hp),vs=[.int a,.ref b,.ref x,.ref n,v,.int j]/\WebAt cw H b ss ns/\PlayAt (cc 10) cw H x b p ss ns tr/\tr.getLast?=some z/\z∈ss /\
 H n=some (.lst (ss.map V.str))/\BadT tb H0 H v/\ss[j.toNat]?=some st/\0<=j/\st∈tr/\TbA H tb qDr/\DrQ P w K mg base cc tb H Q
end
section
variable{P:Program}{w:World}{K:W.Frag}{mg:Str->Option Value}{base:Heap}{cc:Nat->Addr}{cw tb:Addr}
theorem qbR(a:zS tb H H1)(b:zS tb H1 H2):zS tb H H2:=λc o n e=>b c o n (a c o n e)
theorem qbh(a:zS tb H H1)(b:L2.Same H1 H2):zS tb H H2:=λc o n e=>b c o (a c o n e)
theorem jv(a:L2.Same H H1):zS tb H H1:=λc o _ e=>a c o e
theorem qa8(a:zS tb H H1)(T:TbA H1 tb qDr)(h:H1 c=none):H c=none:=by
 cases e:H c with
 | none=>rfl
 | some o =>
  obtain⟨ps,b,_⟩:=T;have n:c≠tb:=λz=>by rw[z,b] at h;cases h
  rw[a c o n e] at h;cases h
theorem Th.flr{k:Nat}(h:Th p H k v):qM v=true\/∃ a,v=.ref a:=by
 cases h with
 | flat f l=>show .inl f
 | lst e ne h l=>show .inr ⟨_,rfl⟩
 | tup e ne h l=>show .inr ⟨_,rfl⟩
 | dct e ne=>show .inr ⟨_,rfl⟩
theorem qai{d k:Int}{D:EndL}{t u:L2.TL}(a:σ[0]?=some (some (.int d)))(h1:d=k->t { D with nx:=u D } σ H)(b:d≠k->u D σ H):lIf (qdd (tOp (qhi K) (qfc 0) (tC (.int k)))) t u D σ H:=by
 show qdd _ _ _ _;show qfh ?_;show vOp ?_;show⟨_,a,?_⟩;apply .inl (.inl (.inl (.inl ⟨rfl,rfl,?_⟩)));apply qU (λh=>h1 ?_) λh=>b ?_
 .have h:eqV (V.int d) (V.int k)=true:=h;simpa [eqV] using h
 .intro e;show h (by subst e;show eqV (V.int d) (V.int d)=true;simp[eqV])
theorem door_fin{n:Addr}{h:Hp}{d:Addr}{o:Option V}{ns:LN}{Q:VK}
  (q:DrQ P w K mg base cc tb H Q) (G:zS tb H H1) (p:zS tb H1 h) (D:TbA h tb qDr) (S:H t=none) (L:h t=some (.tup [.ref f,.ref d])) (N:H d=none) (J:h d=some (.lst (kdL i o))) (R:qgi i o) (O:∀ u,o=some u->qM u=true\/∃ a,u=.ref a)
  (z:js.map (λj=>dN[j]?)=ns.map some) (A:js.map (λj=>σ[j]?)=vs.map λv=>some (some v)) (g:∀ x∈ns,dL n x=some (dcl n qj x)) (l:∀ x∈ns,(qd qj).names.lookup x=some .cell) (B:ns.Nodup)
  (M:∃ r U s,h f=some (FnO f (W.kla_obj "<lambda>" qDr params body scope (ns.zip (ns.map (dcl n qj))) U r s))/\h r=some (CdO r qDr))
  (I:∀ m,Clo m f qDr params body scope ns vs (ns.map (dcl n qj))->(∀ c∈ns.map (dcl n qj),H1 c=none)->zS tb H1 m->qc8 P w K mg base 16 m f λE=>RzO cc m E i o)
  (inj:∀ x y c,dL n x=some c->dL n y=some c->x=y) (free:∀ x c,dL n x=some c->h c=none):Q (.ref t) (qcW (qd qj) (cellsFrom n (qd qj).names []) dN σ h):=by
 have old:L2.Same h (qcW (qd qj) (cellsFrom n (qd qj).names []) dN σ h):=λb o e=>qcm e free;have C:=clo_end inj free z A g l B M;show q t f d i o _ (qbR G (qbh p old)) (D.same old) S (old _ _ L) N (old _ _ J) R O λm F=>?_;show I m (C.same F) (λc hc=>?_) (qbh p (old.trans F));obtain⟨x,T,rfl⟩:=yK.mp hc;show qa8 p D (free x _ (g x T))
theorem qeg{t:TS}{u:L2.TL}{D:EndL}(h:t { nx:=u D,rt:=λ_ _=>False } σ H):qhG t u D σ H:=h
theorem Th.eqI{k:Nat}{i:Int}{Q:VK}(h:Th p H k v)(q:Q (.bl (qM v&&eqV v (.int i))) H):qhi K v (.int i) H Q:=by
 cases h with
 | flat f l=>rw[f] at q;show .inl (.inl (.inl (.inl ⟨f,rfl,q⟩)))
 | lst e ne h l=>show .inr ⟨_,i,rfl,rfl,.inl ⟨_,.inl (SqL.of e)⟩,q⟩
 | tup e ne h l=>show .inr ⟨_,i,rfl,rfl,.inl ⟨_,.inr (SqT.of e)⟩,q⟩
 | dct e ne=>show .inr ⟨_,i,rfl,rfl,.inr ⟨_,e⟩,q⟩
theorem eqz_int{i j:Int}:(qM (V.int i)&&eqV (V.int i) (V.int j))=decide (i=j):=by
 show(true&&_)=_;rw[Bool.true_and,Yn];simp[eqV]
theorem BadT.num{b:Int}(h:BadT tb H0 H v)(c:b<10 ^ 30)(a:(qM v&&eqV v (.int 0))=false):qaE 0 b v=false:=by
 cases v with
 | int i =>
  rw[eqz_int] at a;have a:=of_decide_eq_false a;rcases h.it i rfl with e | e
  .show absurd e a
  .show(decide ((0:Int)<=i)&&decide (i<=b))=false;rw[Bool.and_eq_false_iff];show .inr (yk (by lk))
 | _=>rfl
theorem j8{n:Addr}{o:Option V}{ns:LN}{Q:VK}{tl:TA}
  (q:DrQ P w K mg base cc tb H Q) (J:zS tb H H1) (O:TbA H1 tb qDr) (F:∀(G:Hp) (R:List V->Hp->Prop),zS tb H1 G->R (kdL i o) G->tl σ G R) (Z:qgi i o) (X:∀ u,o=some u->qM u=true\/∃ a,u=.ref a)
  (z:js.map (λj=>dN[j]?)=ns.map some) (A:js.map (λj=>σ[j]?)=vs.map λv=>some (some v)) (g:∀ x∈ns,dL n x=some (dcl n qj x)) (e:∀ x∈ns,(qd qj).names.lookup x=some .cell) (C:ns.Nodup)
  (T:∀ f b,Clo b f qDr params body scope ns vs (ns.map (dcl n qj))->(∀ c∈ns.map (dcl n qj),H1 c=none)->zS tb H1 b->qc8 P w K mg base 16 b f λE=>RzO cc b E i o) :
  qgu (j3 (qhF tb qDr params body scope (ns.zip (ns.map (dcl n qj)))) (j3 (qft tl) qc7)) σ H1 λv H'=>(∀ x y c,dL n x=some c->dL n y=some c->x=y)->(∀ x c,dL n x=some c->H' c=none)->Q v (qcW (qd qj) (cellsFrom n (qd qj).names []) dN σ H'):=by
 apply⟨O,λf S pm s H2 r p Y W U=>?_⟩;show qeA (qhA (F _ _ r ?_));have B:(kdL i o).length<=2:=by unfold kdL;cases o<;>simp
 show⟨yh B (by decide),λd N=>?_⟩;have I:=qF (Sr H2) (o:=.lst (kdL i o)) N;have L:upd H2 d (.lst (kdL i o)) d=some (.lst (kdL i o)):=qc;generalize upd H2 d (.lst (kdL i o))=b at I L ⊢;apply⟨wq1,λt D=>?_⟩;have m:=qF I (o:=.tup [.ref f,.ref d]) D;have l:=qF (Sr b) (o:=.tup [.ref f,.ref d]) D;have M:upd b t (.tup [.ref f,.ref d]) t=some (.tup [.ref f,.ref d]):=qc;generalize upd b t (.tup [.ref f,.ref d])=H4 at m l M ⊢;intro inj free;have h:=qbR J r;show door_fin q J (qbh r m) (p.same m) (qa8 h p (I.free D)) M (qa8 h p N) (l _ _ L) Z X z A g e C ⟨S,pm,s,m _ _ W,m _ _ U⟩ (λb=>T f b) inj free
theorem ok_dr(F:Fun K "_law_door" "_law_door" qj f fd)(T:Txt K mg cc cw)(ah:fd.code=.ref c)(Y:W.CodeHd base c tb)(U:base.BuiltinsAt mg tb)
  (u9:wqZ 5 (cc 10) "Play" wqi (qeX cc cw))
  (Kh:MakeOk P w K mg base (CX1 P w) 5 (cc 10) "Play" wqi (qeZ cc cw)) (kT:MethOk P w K mg base (CX1 P w) 9 (cc 10) "go" wql (qe0 cc cw)) (Kl:DefOk P w K mg base (CX1 P w) 10 "played" wqQ (qd6 cc cw))
  (Kb:DefOk P w K mg base (CX1 P w) 14 "rows_within" wqs (qgh cc 3)) (Ki:DefOk P w K mg base (CX1 P w) 14 "all_within" wqs (qgh cc 5)) (KA:DefOk P w K mg base (CX1 P w) 11 "read_play" wqE (qgc cc cw)) (KB:MethOk P w K mg base (CX1 P w) 4 (cc 10) "back" wh (qga cc cw)) :
  wqY 7 f fd wqj (qhV P w K mg base cc cw tb):=by
 show F.okL ah Ka (λvs H Q E h=>?_) (λA am s H vs Q E hr h=>?_)
 .obtain⟨dr,j,b,x,p,n,v,st,z,ss,tr,ns,H0,rfl,_⟩:=h;rfl
 .obtain⟨dr,j,b,x,p,n,v,st,z,ss,tr,ns,H0,rfl,hW,hP,O,ae,hn,hv,hj,I,ai,N,q⟩:=h;have t:(A.deeper (envOfC "_law_door" (qd qj) s.heap.objs.size f (.ref c))).units+100<cLine:=by have:=hr.un;lk
  obtain⟨ps,B,_⟩:=id N;show⟨_,(qcV (qw (qbW (K:=K) rfl t) (pv 0) qg (qJ _)) (qaZ (qV (qa (qaX (clos:=(wqe:LN).zip ((wqe:LN).map (dcl (s.heap.objs.size+1) qj))) rfl Y U rfl) (qa (qy (qa qg (qa (pv 4) qb))) qb))))
 (qcV (qw (qbW (K:=K) rfl t) (pv 0) qg (qJ _)) (qaZ (qV (qa (qaX (clos:=(wqw:LN).zip ((wqw:LN).map (dcl (s.heap.objs.size+1) qj))) rfl Y U rfl) (qa (qy (qa qg (qa (pv 4) qb))) qb))))
 (qcV (qw (qbW (K:=K) rfl t) (pv 0) qg (qJ _)) (qaZ (qV (qa (qaX (clos:=(wqf:LN).zip ((wqf:LN).map (dcl (s.heap.objs.size+1) qj))) rfl Y U rfl) (qa (qy (qa qg (qa (qG (qH (K:=K) rfl t) (pv 3) (pv 5) (λ_ _=>rfl)) qb))) qb))))
 (qcV (qw (qbW (K:=K) rfl t) (pv 0) qg (qJ _)) (qaZ (qV (qa (qaX (clos:=(wqe:LN).zip ((wqe:LN).map (dcl (s.heap.objs.size+1) qj))) rfl Y U rfl) (qa (qy (qa qg (qa (pv 4) qb))) qb))))
 (qcV (qw (qbW (K:=K) rfl t) (pv 0) qg (qJ _)) (qaZ (qV (qa (qaX (clos:=(wqd:LN).zip ((wqd:LN).map (dcl (s.heap.objs.size+1) qj))) rfl Y U rfl) (qa (qy (qa qg (qa (pv 4) qb))) qb))))
 (qcV (qw (qbW (K:=K) rfl t) (pv 0) qg (qJ _)) (qbf (qx (i:=6) Ka.nd rfl (xO rfl) (qG (qH (K:=K) rfl t) (qy (qa (pv 4) (qa (qcb qaH qg) (qa qg (qa qcv qb))))) (qD jH (pv 5) qg) (λ_ _=>rfl)))
 (qbf (jf (qw (qbW (K:=K) rfl t) (pv 6) qg (qJ _)) (qf (qx (i:=6) Ka.nd rfl (xO rfl) (qcb qaH qg))) qu)
 (qaZ (qV (qa (qaX (clos:=(wqt:LN).zip ((wqt:LN).map (dcl (s.heap.objs.size+1) qj))) rfl Y U rfl) (qa (qy (qa qg (qa (pv 6) qb))) qb))))))
 (qcV (qw (qbW (K:=K) rfl t) (pv 0) qg (qJ _)) (qbf (qx (i:=7) Ka.nd rfl (xO rfl) (qG (qH (K:=K) rfl t) (qy (qa (pv 4) (qa (qcb qaH qg) (qa qg (qa qcv qb))))) (qD jH (pv 5) qg) (λ_ _=>rfl)))
 (qbf (jf (qw (qbW (K:=K) rfl t) (pv 7) qg (qJ _)) (qf (qx (i:=7) Ka.nd rfl (xO rfl) (qcb qaH qg))) qu)
 (qaZ (qV (qa (qaX (clos:=(wqu:LN).zip ((wqu:LN).map (dcl (s.heap.objs.size+1) qj))) rfl Y U rfl) (qa (qy (qa qg (qa (pv 7) qb))) qb))))))
 (qcV (qw (qbW (K:=K) rfl t) (pv 0) qg (qJ _)) (qbf (qx (i:=8) Ka.nd rfl (xO rfl) (qG (qH (K:=K) rfl t) (qy (qa (pv 4) (qa qek (qa qg (qa (qy (qa (qG (qH (K:=K) rfl t) (pv 3) (pv 5) (λ_ _=>rfl)) qb)) qb))))) (qD jH (pv 5) qg) (λ_ _=>rfl)))
 (qaZ (qV (qa (qaX (clos:=(wqp:LN).zip ((wqp:LN).map (dcl (s.heap.objs.size+1) qj))) rfl Y U rfl) (qa (qy (qa qg (qa qg qb))) qb)))))
 (qbf (qx (i:=9) Ka.nd rfl (xO rfl) (qcg u9 (hmR hr) (qa (pv 1) (qa (qG (qH (K:=K) rfl t) (pv 3) (pv 5) (λ_ _=>rfl)) qb))))
 (qaZ (qV (qa (qaX (clos:=(wqF:LN).zip ((wqF:LN).map (dcl (s.heap.objs.size+1) qj))) rfl Y U rfl) (qa (qy (qa qg qb)) qb))))))))))))),?_⟩
  have X:∀ u,some v=some u->qM u=true\/∃ a,u=.ref a:=λu e=>by cases e;show hv.th.flr
  show qai rfl (λ_=>?_) λ_=>?_
  .show j8 (i:=2) (o:=some v) (js:=[1,4]) (vs:=[.ref b,v]) q (jv (Sr H)) N (λG R _ k=>⟨_,rfl,k⟩) (.inr ⟨by simp,.inl rfl⟩) X rfl rfl (by simp only[yt,yv,yN];rintro x (rfl | rfl)<;>rfl) (by room) (by room) λf M C d g=>deed0 T Kh hW hv B C d g
  show qai rfl (λ_=>?_) λ_=>?_
  .show j8 (i:=5) (o:=some v) (js:=[2,4]) (vs:=[.ref x,v]) q (jv (Sr H)) N (λG R _ k=>⟨_,rfl,k⟩) (.inr ⟨by simp,.inr (.inl rfl)⟩) X rfl rfl (by simp only[yt,yv,yN];rintro x (rfl | rfl)<;>rfl) (by room) (by room) λf M C d g=>deed1 T kT hP O ae hv B C d g
  show qai rfl (λ_=>?_) λ_=>?_
  .show j8 (i:=5) (o:=some (.str st)) (js:=[5,2,3]) (vs:=[.int j,.ref x,.ref n]) q (jv (Sr H)) N (λG R b k=>by
    show qeA (vC (qeA (vOp ⟨_,rfl,⟨_,rfl,?_⟩⟩)));show qe3 (b _ _ (jx hn B (by intro z;cases z)) hn) hj I k) (.inr ⟨by simp,.inr (.inl rfl)⟩) (λu e=>by cases e;show .inl rfl) rfl rfl (by simp only[yt,yv,yN];rintro x (rfl | rfl | rfl)<;>rfl) (by room) (by room) λf M C d g=>deed2 T kT hP O ae hn hj I ai B C d g
  show qai rfl (λ_=>?_) λ_=>?_
  .show j8 (i:=2) (o:=some v) (js:=[1,4]) (vs:=[.ref b,v]) q (jv (Sr H)) N (λG R _ k=>⟨_,rfl,k⟩) (.inr ⟨by simp,.inl rfl⟩) X rfl rfl (by simp only[yt,yv,yN];rintro x (rfl | rfl)<;>rfl) (by room) (by room) λf M C d g=>deed3 T Kl hW hv B C d g
  show qai rfl (λ_=>?_) λ_=>?_
  .show j8 (i:=5) (o:=some v) (js:=[1,5,3,4]) (vs:=[.ref b,.int j,.ref n,v]) q (jv (Sr H)) N (λG R _ k=>⟨_,rfl,k⟩) (.inr ⟨by simp,.inr (.inl rfl)⟩) X rfl rfl (by simp only[yt,yv,yN];rintro x (rfl | rfl | rfl | rfl)<;>rfl) (by room) (by room) λf M C d g=>deed4 T Kl hW hv hn hj I B C d g
  show qai rfl (λ_=>?_) λ_=>?_
  .with_reducible show qeg ?_
   apply⟨1,rfl,?_⟩;apply⟨wq2,λl hl=>?_⟩;have S:=qF (Sr H) (o:=.lst [v,.int (-1),.int 4,.bl true]) hl;have el:upd H l (.lst [v,.int (-1),.int 4,.bl true]) l=some (.lst [v,.int (-1),.int 4,.bl true]):=qc;generalize upd H l (.lst [v,.int (-1),.int 4,.bl true])=H1 at S el ⊢;have b1:=jv (tb:=tb) S;have T1:=N.same S;have J:=hv.butT b1;obtain⟨D,D,_⟩:=id T1;apply⟨j,4,rfl,rfl,by show(0:Int)<4;decide,?_⟩;obtain⟨y,iy,m⟩:=qb2 (xs:=[v,V.int (-1),.int 4,.bl true]) (yY j (show(4:Int)≠0 by decide)) (yR j (show(0:Int)<4 by decide));show .inl (qbF el iy ?_);have m:=ye m;simp only[yt,yv,yN] at m
   have r:Th tb H1 2 y:=by
    rcases m with rfl | rfl | rfl | rfl
    .show J.th
    all_goals show .flat rfl λs e=>by cases e
   have aa:(qM y&&eqV y (.int 0))=false->qaE 0 3 y=false:=λO=>by
    rcases m with rfl | rfl | rfl | rfl
    .show J.num (by decide) O
    .decide
    .decide
    .rfl
   clear m iy;ext
   with_reducible show qeg ?_
   apply r.eqI ?_;ext
   cases O:(qM y&&eqV y (.int 0)) with
   | false =>
    show yo ?_;apply j8 (i:=8) (o:=some y) (js:=[2,6]) (vs:=[.ref x,y]) q b1 T1 (λG R _ k=>⟨_,rfl,k⟩) (.inr ⟨by simp,.inr (.inr (.inl rfl))⟩) (λu e=>by cases e;show r.flr) rfl rfl (by simp only[yt,yv,yN];rintro x (rfl | rfl)<;>rfl) (by room) (by room) λf M C d g=>qgY T Kb r (aa O) D C d g
   | true =>
    show qbB ?_;apply⟨1,rfl,?_⟩;apply j8 (i:=8) (o:=some (.int (-1))) (js:=[2,6]) (vs:=[.ref x,.int (-1)]) q b1 T1 (λG R _ k=>⟨_,rfl,k⟩) (.inr ⟨by simp,.inr (.inr (.inl rfl))⟩) (λu e=>by cases e;show .inl rfl) rfl rfl (by simp only[yt,yv,yN];rintro x (rfl | rfl)<;>rfl) (by room) (by room) λf M C d g=>qgY T Kb (.flat rfl λs e=>by cases e) (by decide) D C d g
  show qai rfl (λ_=>?_) λ_=>?_
  .with_reducible show qeg ?_
   apply⟨1,rfl,?_⟩;apply⟨wq2,λl hl=>?_⟩;have S:=qF (Sr H) (o:=.lst [v,.int (-1),.int 6,.bl false]) hl;have el:upd H l (.lst [v,.int (-1),.int 6,.bl false]) l=some (.lst [v,.int (-1),.int 6,.bl false]):=qc;generalize upd H l (.lst [v,.int (-1),.int 6,.bl false])=H1 at S el ⊢;have b1:=jv (tb:=tb) S;have T1:=N.same S;have J:=hv.butT b1;obtain⟨D,D,_⟩:=id T1;apply⟨j,4,rfl,rfl,by show(0:Int)<4;decide,?_⟩;obtain⟨y,iy,m⟩:=qb2 (xs:=[v,V.int (-1),.int 6,.bl false]) (yY j (show(4:Int)≠0 by decide)) (yR j (show(0:Int)<4 by decide));show .inl (qbF el iy ?_);have m:=ye m;simp only[yt,yv,yN] at m
   have r:Th tb H1 2 y:=by
    rcases m with rfl | rfl | rfl | rfl
    .show J.th
    all_goals show .flat rfl λs e=>by cases e
   have aa:(qM y&&eqV y (.int 0))=false->qaE 0 5 y=false:=λO=>by
    rcases m with rfl | rfl | rfl | rfl
    .show J.num (by decide) O
    .decide
    .decide
    .rfl
   clear m iy;ext
   with_reducible show qeg ?_
   apply r.eqI ?_;ext
   cases O:(qM y&&eqV y (.int 0)) with
   | false =>
    show yo ?_;apply j8 (i:=8) (o:=some y) (js:=[2,7]) (vs:=[.ref x,y]) q b1 T1 (λG R _ k=>⟨_,rfl,k⟩) (.inr ⟨by simp,.inr (.inr (.inl rfl))⟩) (λu e=>by cases e;show r.flr) rfl rfl (by simp only[yt,yv,yN];rintro x (rfl | rfl)<;>rfl) (by room) (by room) λf M C d g=>qgZ T Ki r (aa O) D C d g
   | true =>
    show qbB ?_;apply⟨2,rfl,?_⟩;apply j8 (i:=8) (o:=some (.int (-2))) (js:=[2,7]) (vs:=[.ref x,.int (-2)]) q b1 T1 (λG R _ k=>⟨_,rfl,k⟩) (.inr ⟨by simp,.inr (.inr (.inl rfl))⟩) (λu e=>by cases e;show .inl rfl) rfl rfl (by simp only[yt,yv,yN];rintro x (rfl | rfl)<;>rfl) (by room) (by room) λf M C d g=>qgZ T Ki (.flat rfl λs e=>by cases e) (by decide) D C d g
  show qai rfl (λ_=>?_) λ_=>?_
  .with_reducible show qeg ?_
   apply qe3 hn hj I ?_;apply⟨wq0,λa ha=>?_⟩;have S:=qF (Sr H) (o:=.lst [.str st]) ha;have ea:upd H a (.lst [.str st]) a=some (.lst [.str st]):=qc;generalize upd H a (.lst [.str st])=H1 at S ea ⊢;apply⟨wq2,λl hl=>?_⟩;have s2:=qF S (o:=.lst [v,.non,.int 5,.ref a]) hl;have ab:=qF (Sr H1) (o:=.lst [v,.non,.int 5,.ref a]) hl _ _ ea;have el:upd H1 l (.lst [v,.non,.int 5,.ref a]) l=some (.lst [v,.non,.int 5,.ref a]):=qc;generalize upd H1 l (.lst [v,.non,.int 5,.ref a])=H2 at s2 ab el ⊢;have b2:=jv (tb:=tb) s2;have T2:=N.same s2;have aj:=hv.butT b2;obtain⟨L,L,_⟩:=id T2;apply⟨j,4,rfl,rfl,by show(0:Int)<4;decide,?_⟩;obtain⟨y,iy,m⟩:=qb2 (xs:=[v,V.non,.int 5,.ref a]) (yY j (show(4:Int)≠0 by decide)) (yR j (show(0:Int)<4 by decide));show .inl (qbF el iy ?_);have m:=ye m;simp only[yt,yv,yN] at m
   have r:Th tb H2 2 y:=by
    rcases m with rfl | rfl | rfl | rfl
    .show aj.th
    .show .flat rfl λs e=>by cases e
    .show .flat rfl λs e=>by cases e
    .show .lst ab (λz=>by rw[z,B] at ha;cases ha) (λu t=>by rw[yA.mp t];show .flat rfl λs e=>by cases e;show qe2 hW.ok (ye hj)) (by show 1<=1000;decide)
   have ak:∀ u,y=.str u->u.length<=10000/\∀ w,(wdS u)[0]?=some w->w∉ss:=λu e=>by
    rcases m with rfl | rfl | rfl | rfl
    .obtain⟨h1,h2,h3⟩:=hv.nm u e;show⟨by lk,λw hw ac=>?_⟩;rw[wd_one h3 hw] at ac;have:=hW.ok.nm u ac;rw[h1] at this;cases this
    all_goals cases e
   clear m iy;apply j8 (i:=7) (o:=some (.int 0)) (js:=[1,8]) (vs:=[.ref b,y]) q b2 T2 (λG R _ k=>k) (.inr ⟨by simp,.inr (.inr (.inr rfl))⟩) (λu e=>by cases e;show .inl rfl) rfl rfl (by simp only[yt,yv,yN];rintro x (rfl | rfl)<;>rfl) (by room) (by room) λf M C d g=>deed7 T KA (hW.same s2) r ak L C d g
  .with_reducible show qeg ?_
   apply qe3 hn hj I ?_;ext;intro y Z ad ag al;have sG:L2.Same H (upd (upd H Z (.own y)) y (.ins (cc 10) Z [])):=qF (qF (Sr H) ag) (by rw[qh al.symm];show ad);have eG:upd (upd H Z (.own y)) y (.ins (cc 10) Z []) y=some (.ins (cc 10) Z []):=qc;generalize upd (upd H Z (.own y)) y (.ins (cc 10) Z [])=G at sG eG ⊢;show⟨y,Z,b,st,ss,ns,rfl,eG,hW.same sG,ye hj,λp2 H2 b2 an af=>⟨rfl,?_⟩⟩;have s2:L2.Same H H2:=qbt sG b2 ad;have T2:=N.same s2;obtain⟨L,L,_⟩:=id T2;apply j8 (i:=6) (o:=none) (js:=[9]) (vs:=[.ref y]) q (jv s2) T2 (λG R _ k=>k) (.inl ⟨rfl,rfl⟩) (λu e=>by cases e) rfl rfl (by simp only[yt,yv,yN];rintro x rfl;rfl) (by room) (by room) λf M C d g=>deed8 T KB af L C d g
end
theorem uS:FnScope wqV wqV (qd qa9):=fS
inductive StT(H:Hp)(r:Addr)(tr ll ml:LN)(h:Int)(e:Bool)(lo:V)(z:Str)(ks:LN)(kd:LS):Prop
 | mk (g l m p t t1 t2:Addr) (ts:LX) (_:H r=some (.lst [.ref g,.ref l,.ref m,.int h,.bl e,lo,.ref p])) (_:H g=some (.lst (tr.map V.str))) (_:H l=some (.lst (ll.map V.str))) (_:H m=some (.lst (ml.map V.str))) (_:H p=some (.tup [.str z,.ref t])) (_:H t=some (.tup [.ref t1,.ref t2])) (_:H t1=some (.tup (ks.map V.str))) (_:H t2=some (.tup (ts.map V.ref))) (_:All2 (λt ab=>H t=some (.tup [.str ab.1,.str ab.2])) ts kd)
theorem StT.same{ks:LN}(S:StT H r tr ll ml h e lo z ks kd)(s:∀ a o,(∀ ps,o≠.tbl ps)->H a=some o->H' a=some o):StT H' r tr ll ml h e lo z ks kd:=by
 obtain⟨g,l,m,p,t,w,A,ts,h1,d,f,i,n,q,u,v,c⟩:=S;show⟨g,l,m,p,t,w,A,ts,s _ _ (by intro _ e;cases e) h1,s _ _ (by intro _ e;cases e) d,s _ _ (by intro _ e;cases e) f,s _ _ (by intro _ e;cases e) i,s _ _ (by intro _ e;cases e) n,s _ _ (by intro _ e;cases e) q,s _ _ (by intro _ e;cases e) u,s _ _ (by intro _ e;cases e) v,⟨c.len,λj x y a b=>s _ _ (by intro _ e;cases e) (c.at_ j x y a b)⟩⟩
theorem qcr(d:H a=some (.lst (ss.map V.str)))(hb:H b=some (.lst (ss.map V.str))):EqT K H (n+1) a b true:=by
 have z:=EqT.lst (K:=K) (H:=H) (n:=n) (e:=λ_=>true) (SqL.of d) (SqL.of hb) rfl λj x y h1 c=>by
  rw[h1] at c;cases c;show qbu x (ye h1)
 rw[qa5] at z;show z
theorem qbS(v:V)(f:qM v=true):EqD K H n v v true:=by
 have e:=EqD.flat (K:=K) (H:=H) (n:=n) f f;have:eqV v v=true:=eqV_self f
 rwa[this] at e
theorem StT.eq{w:Addr}{ks:LN}(S:StT H r tr ll ml h e lo z ks kd)(A:StT H w tr ll ml h e lo z ks kd)(M:qM lo=true):EqT K H 6 r w true:=by
 obtain⟨g,l,m,p,t,t1,t2,ts,h1,D,E,F,G,I,J,L,f⟩:=S;obtain⟨g',l',m',Y,t',o,s,aa,N,O,P,R,T,U,W,X,v⟩:=A;have w1:EqD K H 3 (.ref t1) (.ref o) true:=qah (qb8 (n:=2) J W rfl λj x y a b=>by rw[a] at b;cases b;show qbu x (ye a))
 have w2:EqD K H 3 (.ref t2) (.ref s) true:=qah (qb8 (n:=2) L X (by rw[ya,ya,f.len,v.len]) λj x y a b=>by
  obtain⟨q,u,rfl⟩:=qcq a;obtain⟨Z,i,rfl⟩:=qcq b;obtain⟨c,d⟩:∃ c,kd[j]?=some c:=⟨_,yb (by rw[<- f.len];show(yc.mp u).1)⟩;have B:=f.at_ j q c u d;have C:=v.at_ j Z c i d;show qah (qb8 (n:=1) B C rfl λj x y a b=>?_);rw[a] at b;cases b;show qbu (ss:=[c.1,c.2]) x (ye a))
 have w3:EqD K H 4 (.ref t) (.ref t') true:=qah (qb8 (n:=3) I U rfl λj x y a b=>by
  match j,a,b with
  | 0,a,b=>cases a;cases b;show w1
  | 1,a,b=>cases a;cases b;show w2
  | j+2,a,b=>simp at a)
 have w4:EqD K H 5 (.ref p) (.ref Y) true:=qah (qb8 (n:=4) G T rfl λj x y a b=>by
  match j,a,b with
  | 0,a,b=>cases a;cases b;show qbS _ rfl
  | 1,a,b=>cases a;cases b;show w3
  | j+2,a,b=>simp at a)
 have z:=EqT.lst (K:=K) (H:=H) (n:=5) (e:=λ_=>true) (SqL.of h1) (SqL.of N) rfl λj x y a b=>by
  match j,a,b with
  | 0,a,b=>cases a;cases b;show qah (qcr D O)
  | 1,a,b=>cases a;cases b;show qah (qcr E P)
  | 2,a,b=>cases a;cases b;show qah (qcr F R)
  | 3,a,b=>cases a;cases b;show qbS _ rfl
  | 4,a,b=>cases a;cases b;show qbS _ rfl
  | 5,a,b=>cases a;cases b;show qbS _ M
  | 6,a,b=>cases a;cases b;show w4
  | j+7,a,b=>simp at a
 rw[qa5] at z;show z
def StP(H:Hp)(r:Addr)(ss:LN)(ns:LQ)(dps:LS)(tr:LN)(z:Str):Prop:=StT H r tr (ngS tr ss) (mvS ss ns tr z) (((tr.length:Int)-1) % 2) (decide (mvS ss ns tr z=[])) (qg6 tr.length (decide (mvS ss ns tr z=[]))) z (qad ss (tr.dropLast.map V.str)) (qav dps (qad ss (tr.dropLast.map V.str)))
def qhr(cc:Nat->Addr)(cw:Addr):Sp:=λvs H Q _=>∃(x b p:Addr) (ss:LN) (ns:LQ) (tr:LN) (z:Str) (dps:LS),vs=[.ref x]/\PlayAt (cc 10) cw H x b p ss ns tr/\WG ss ns dps/\tr.getLast?=some z/\z∈ss/\tr.length<=100/\(∀ s∈tr,s∈ss)/\∀(r:Addr) (H':Hp),L2.Same H H'->H r=none->StP H' r ss ns dps tr z->Q (.ref r) H'
theorem ok_st(F:Fun K "_law_state" "_law_state" qa9 f fd)(T:Txt K mg cc cw)(uL:wqX 1 (cc 10) "gone" wh (qhN cc cw))(uM:wqX 3 (cc 10) "left" wh (qgV cc cw))(kW:wqX 7 (cc 10) "moves" wh (qgR cc cw))(X:wqX 1 (cc 10) "hand" wh (qhn cc cw))(W:wqX 8 (cc 10) "ended" wh (qgb cc cw))(uE:wqX 9 (cc 10) "loser" wh (qgU cc cw))(U:wqX 10 (cc 10) "position" wh (qgS cc cw)) :
  wqY 11 f fd wqV (qhr cc cw):=by
 show F.ok uS (λvs H Q E h=>?_) λ_ _ _ _ H vs Q E s h=>?_
 .obtain⟨x,b,p,ss,ns,tr,z,dps,rfl,_⟩:=h;rfl
 .obtain⟨x,b,p,ss,ns,tr,z,dps,rfl,i,hG,L,D,J,N,q⟩:=h;have hu:=zT s;show⟨_,(qf (qm (qy (qa (qv uL (hmR s) (pv 0)) (qa (qv uM (hmR s) (pv 0)) (qa (qv kW (hmR s) (pv 0)) (qa (qv X (hmR s) (pv 0)) (qa (qv W (hmR s) (pv 0)) (qa (qv uE (hmR s) (pv 0)) (qa (qv U (hmR s) (pv 0)) qb)))))))))),?_⟩;have aa:∀{H':Hp},L2.Same H H'->∃ dx,H' x=some (.ins (cc 10) dx (qZ "path" (.ref p) (qZ "board" (.ref b) []))):=λs'=>let ⟨dx,h,_⟩:=i;⟨dx,s' _ _ h⟩;obtain⟨dx,C,_⟩:=id i;apply⟨x,dx,_,rfl,C,qR,?_⟩;apply⟨x,b,p,ss,ns,tr,rfl,i,λg hg=>?_⟩;have M:=qF (Sr H) (o:=.lst (tr.map V.str)) hg;have d:upd H g (.lst (tr.map V.str)) g=some (.lst (tr.map V.str)):=qc;generalize upd H g (.lst (tr.map V.str))=H1 at M d ⊢;apply⟨x,dx,_,rfl,M _ _ C,qR,?_⟩;apply⟨x,b,p,ss,ns,tr,rfl,i.same M,λl H2 I ab e=>?_⟩;replace d:=I _ _ d;replace I:=M.trans I;apply⟨x,dx,_,rfl,I _ _ C,qR,?_⟩;apply⟨x,b,p,ss,ns,tr,z,rfl,i.same I,L,D,λm H3 n ac A=>?_⟩;replace d:=n _ _ d;replace e:=n _ _ e;replace n:=I.trans n;apply⟨x,dx,_,rfl,n _ _ C,qR,?_⟩;apply⟨x,b,p,ss,ns,tr,rfl,i.same n,?_⟩;apply⟨x,dx,_,rfl,n _ _ C,qR,?_⟩;apply⟨x,b,p,ss,ns,tr,z,rfl,i.same n,L,D,λH4 u=>?_⟩;replace d:=u _ _ d;replace e:=u _ _ e;replace A:=u _ _ A;replace u:=n.trans u;apply⟨x,dx,_,rfl,u _ _ C,qR,?_⟩;apply⟨x,b,p,ss,ns,tr,z,rfl,i.same u,L,D,λH5 v=>?_⟩;replace d:=v _ _ d;replace e:=v _ _ e;replace A:=v _ _ A;replace v:=u.trans v;apply⟨x,dx,_,rfl,v _ _ C,qR,?_⟩;apply⟨x,b,p,ss,ns,tr,z,dps,rfl,i.same v,hG,L,J,N,λR t t1 t2 ts S G B Y Z e3 e4 O=>?_⟩;replace d:=G _ _ d;replace e:=G _ _ e;replace A:=G _ _ A;replace G:=v.trans G;apply⟨by show 7<=sizeLine;decide,λr B=>?_⟩;have c:=qF (Sr S) (o:=.lst [.ref g,.ref l,.ref m,.int (((tr.length:Int)-1) % 2),.bl (decide (mvS ss ns tr z=[])),qg6 tr.length (decide (mvS ss ns tr z=[])),.ref R]) B;apply q r _ (G.trans c) (G.free B) ⟨g,l,m,R,t,t1,t2,ts,qc,c _ _ d,c _ _ e,c _ _ A,c _ _ Y,c _ _ Z,c _ _ e3,c _ _ e4,⟨O.len,λj x y a b=>c _ _ (O.at_ j x y a b)⟩⟩
end
theorem kR:FnScope wqb wqS (qd qc6):=fS
def qhW(p t:Addr)(H H':Hp):Prop:=∀ c o,c≠p->c≠t->H c=some o->H' c=some o
structure LK(cp cw:Addr)(HB H:Hp)(x b p t:Addr)(ss:LN)(ns:LQ)(tr:LN):Prop where
 same:L2.Same HB H
 web:WebAt cw HB b ss ns
 play:PlayAt cp cw H x b p ss ns tr
 row:RowOk ss ns tr
 tr:H t=some (.lst (tr.map V.str))
 np:t≠p
 p5:HB p=none
 t5:HB t=none
section
variable{cp cw:Addr}{HB H H':Hp}{x b p t:Addr}{ss:LN}{ns:LQ}{tr:LN}
theorem LK.on(h:LK cp cw HB H x b p t ss ns tr)(s:L2.Same H H'):LK cp cw HB H' x b p t ss ns tr:=⟨h.same.trans s,h.web,h.play.same s,h.row,s _ _ h.tr,h.np,h.p5,h.t5⟩
theorem LK.chg(h:LK cp cw HB H x b p t ss ns tr){a:LN}(k:qhW p t H H')(f:H' p=some (.lst (a.map V.str)))(g:H' t=some (.lst (a.map V.str)))(i:RowOk ss ns a):LK cp cw HB H' x b p t ss ns a:=by
 have s:L2.Same HB H':=λc o e=>k c o (λz=>by rw[z,h.p5] at e;cases e) (λz=>by rw[z,h.t5] at e;cases e) (h.same _ _ e);obtain⟨dx,d,j,_⟩:=h.play;show⟨s,h.web,⟨dx,k _ _ (jx d j (by intro z;cases z)) (jx d h.tr (by intro z;cases z)) d,f,h.web.same s⟩,i,g,h.np,h.p5,h.t5⟩
end
def qS(ss:LN):LN:=if ("q":Str)∈ss then ss else ss++[("q":Str)]
theorem qS_ok(h:NOk ss):(qS ss).Nodup/\(∀ s∈qS ss,jG s=true)/\qS ss≠[]/\(qS ss).length<=15:=by
 unfold qS;by_cases c:("q":Str)∈ss
 .rw [yB c];show⟨h.nd,h.nm,(λe=>by rw[e] at c;cases c),yh h.few (by decide)⟩
 .rw [yw c];show⟨xL.mpr ⟨h.nd,by simp,λa d b hb e=>c (by rw[<- yA.mp hb,<- e];show d)⟩,λs hs=>?_,by simp,by have:=h.few;rw[yx];show ss.length+1<=15;lk⟩;rcases Yj.mp hs with hs | hs
  .show h.nm s hs
  .rw [yA.mp hs];room
theorem nq_ok(h:NOk ss):NOk ((qS ss).take 14)/\(qS ss).take 14≠[]:=by
 obtain⟨h1,a,b,d⟩:=qS_ok h;show⟨⟨by rw[Yc];lk,h1.sublist (List.take_sublist _ _),λs c=>a s (XG c)⟩,λe=>?_⟩;have:=congrArg List.length e;rw[Yc] at this;have f:=YV.mpr b;simp only[xF] at this;lk
theorem str_in{n:Addr}{Q:VK}(a:H n=some (.lst (ss.map V.str)))(q:Q (.bl (decide (z∈ss))) H):qgK K false (.str z) (.ref n) H Q:=
 .inl ⟨n,_,rfl,.inl (.of a),rfl,Yo.mpr λx b=>by(obtain⟨s,_,rfl⟩:=yK.mp b;rfl),by rw[yw (by decide),qaB];show q⟩
structure LI(K:W.Frag)(cp cw tb:Addr)(H:Hp)(a n b x p t sa:Addr)(nz:LY)(ss:LN)(ns:LQ)(dps:LS)(tr:LN)(z:Str):Prop where
 scr:SqL K H a (nz.map V.int)
 nm:H n=some (.lst (ss.map V.str))
 web:WebAt cw H b ss ns
 play:PlayAt cp cw H x b p ss ns tr
 trl:H t=some (.lst (tr.map V.str))
 st:StP H sa ss ns dps tr z
 tbl:TbA H tb qDr
theorem LI.but{n:Addr}(h:LI K cp cw tb H a n b x p t sa nz ss ns dps tr z)(k:zS tb H H')(T:TbA H' tb qDr):LI K cp cw tb H' a n b x p t sa nz ss ns dps tr z:=by
 obtain⟨ps,f,_⟩:=id h.tbl;have d:∀{c:Addr} {o:HO},(∀ ps,o≠.tbl ps)->H c=some o->H' c=some o:=λ{c o} n e=>k c o (λz=>by rw[z,f] at e;show n _ (yl e).symm) e;show⟨?_,d (by intro _ e;cases e) h.nm,h.web.butT f k,h.play.butT f k,d (by intro _ e;cases e) h.trl,h.st.same λc o n e=>d n e,T⟩;rcases h.scr with hl | hl
 .rcases hl with hl | ⟨o,hl⟩
  .show .inl (.inl (d (by intro _ e;cases e) hl))
  .show .inl (.inr ⟨o,d (by intro _ e;cases e) hl⟩)
 .show .inr hl
theorem qe4(g:H a=some (.lst xs))(hb:H b=some (.lst xs))(h:∀ x∈xs,qM x=true\/∃ a,x=.ref a):EqT K H 1 a b true:=by
 have z:=EqT.lst (K:=K) (H:=H) (n:=0) (e:=λ_=>true) (SqL.of g) (SqL.of hb) rfl λj x y h1 d=>by
  rw[h1] at d;cases d;rcases h x (ye h1) with f | ⟨c,rfl⟩
  .show qbS x f
  .show .self
 rw[qa5] at z;show z
theorem qfU{o:Option V}(b:∀ u,o=some u->qM u=true\/∃ a,u=.ref a):∀ x∈kdL i o,qM x=true\/∃ a,x=.ref a:=λx hx=>by
 unfold kdL at hx;rcases yt.mp hx with rfl | hx
 .show .inl rfl
 .cases o with
  | none=>cases hx
  | some u=>rw[yA.mp hx];show b u rfl
theorem kdB_eq{o:Option V}(a:qgi i o):(List.range 8).map (λm=>V.bl (decide (m=kdN i)))=kdB i:=by
 rcases a with⟨_,rfl⟩ | ⟨_,rfl | rfl | rfl | rfl⟩<;>decide
def qd7(K:W.Frag)(tb:Addr):Sp:=λvs H Q _=>∃(a:Addr) (ns:LY),vs=[.ref a]/\SqL K H a (ns.map V.int)/\ns.length<=63/\TbA H tb qDr/\∀ H',Q (.bl true) H'
section
variable{P:Program}{w:World}{K:W.Frag}{mg:Str->Option Value}{base:Heap}{cc:Nat->Addr}{cw tb:Addr}
theorem qe5{n d i:Addr}{o:Option V}(m:LI K (cc 10) cw tb J a n b x p t sa nz ss ns dps tr z)(C:WG ss ns dps)(I:tr.getLast?=some z)(l:z∈ss)(j:tr.length<=100)(h:∀ s∈tr,s∈ss)
  (y:J r=some (.lst (kdL i o))) (w:J d=some (.lst (kdL i o))) (F:∀ u,o=some u->qM u=true\/∃ a,u=.ref a) (g:σ[16]?=some (some (.ref r))) (f:σ[15]?=some (some (.ref d))) (A:σ[5]?=some (some (.ref x))) (B:σ[8]?=some (some (.ref sa))) (nx:∀ G,L2.Same J G->D.nx σ G) :
  qgn (tOr (qdd (tOp (qgJ K true) (qfc 16) (qfc 15))) (qdd (tOp (qgJ K true) (qd8 (qhr cc cw) [] E0 (j3 (qfc 5) qc7)) (qfc 8)))) (qg8 (tC (V.bl false))) qfW D σ J:=by
 show qhz ?_;show vOr ?_;show qfh ?_;show vOp ⟨_,g,⟨_,f,?_⟩⟩;show .inr (.inl ⟨r,d,true,1,rfl,rfl,by decide,qe4 y w (qfU F),?_⟩);apply yo ?_;show qfh ?_;show vOp ?_;show qgC (qeA ⟨_,A,?_⟩);apply⟨x,b,p,ss,ns,tr,z,dps,rfl,m.play,C,I,l,j,h,λL G q H E=>?_⟩;show⟨_,B,?_⟩;have v:=m.st.same λc o _ e=>q c o e;show .inr (.inl ⟨L,sa,true,6,rfl,rfl,by decide,StT.eq E v (by unfold qg6;split<;>rfl),?_⟩);apply yo ?_;show nx G q
theorem qhX{c:TT}{t u:TS}(h:qgn c t u D σ H):qgn c t u D σ H:=h
theorem Th.has(h:Th p J m (.ref a)):∃ o,J a=some o/\a≠p:=by
 cases h with
 | flat f l=>cases f
 | lst e ne h l=>show⟨_,e,ne⟩
 | tup e ne h l=>show⟨_,e,ne⟩
 | dct e ne=>show⟨_,e,ne⟩
theorem Th.lty(h:Th p J m v):∃ t∈wqo,TyOf K J v (.type t)/\(qbU t "list"=true->∃ c xs,v=.ref c/\J c=some (.lst xs)/\xs.length<=1000):=by
 have d:∀{P:Prop} {a b:String},qbU a b=false->qbU a b=true->P:=λh1 g=>by rw[h1] at g;cases g
 cases h with
 | flat f l =>
  cases v with
  | non=>show⟨"NoneType",by simp,.non,d (by decide)⟩
  | bl x=>show⟨"bool",by simp,.bl x,d (by decide)⟩
  | int x=>show⟨"int",by simp,.int x,d (by decide)⟩
  | str x=>show⟨"str",by simp,.str x,d (by decide)⟩
  | _=>cases f
 | lst e ne h l=>show⟨"list",by simp,.lst e,λ_=>⟨_,_,rfl,e,l⟩⟩
 | tup e ne h l=>show⟨"tuple",by simp,.tup e,d (by decide)⟩
 | dct e ne=>show⟨"dict",by simp,.dK e,d (by decide)⟩
theorem tbA_keep(h:TbA H tb qDr)(k:∀ b o,H b=some o->(∀ xs,o≠.lst xs)->J b=some o):TbA J tb qDr:=by
 obtain⟨ps,h1,e,f⟩:=h;show⟨ps,k _ _ h1 (λxs z=>by cases z),e,λp=>(f p).imp id λ⟨c,a,d⟩=>⟨c,a,k _ _ d λxs z=>by cases z⟩⟩
theorem ok_law15(F:Fun K "law" "law" qc6 f fd)(T:Txt K mg cc cw)(Ku:wqW 1 "_law_cell" wqG (qhJ K))(uW:wqW 2 "_law_names" wqU qhK)(u6:wqW 2 "_law_ties" wqC qhL)(Ua:wqZ 5 cw "Web" wqx (λvs H Q _=>qee cc cw vs H Q E0))
  (Kh:wqZ 5 (cc 10) "Play" wqi (qeX cc cw)) (kY:wqW 1 "_law_numbers" wqn qg5) (uX:wqW 2 "_law_moves" wqk qhP) (kT:wqX 9 (cc 10) "go" wql (qeY cc cw)) (KD:wqX 8 cw "told" wh (qeS cw))
  (uf:wqW 11 "_law_state" wqV (qhr cc cw)) (uY:wqW 1 "_law_thing" wqI (qhS tb)) (u7:wqW 7 "_law_door" wqj (qhV P w K mg base cc cw tb)) (uZ:wqW 17 "_law_kinds" wqO (qhT P w K mg base cc)) (uF:wqW 17 "_law_held" wqO (qhU P w K mg base cc)):wqY 18 f fd wqS (qd7 K tb):=by
 show F.ok kR (λvs H Q E h=>?_) λ_ _ _ s H vs Q E C h=>?_
 .obtain⟨a,ns,rfl,_⟩:=h;rfl
 .obtain⟨a,nz,rfl,hS,ek,ap,q⟩:=h;have Y:=zT C;obtain⟨TC8,av⟩:∃ t':TS,t'=λD σ H'=>(∀ u H',Q u H'->D.rt u H')/\∃(S:Hp) (x b p n l t:Addr) (ss:LN) (ns:LQ) (dps:LS) (tr:LN) (x6 x7:Option V),LK (cc 10) cw S H' x b p t ss ns tr/\tr.length<=5/\WG ss ns dps/\S n=some (.lst (ss.map V.str))/\SqL K S a (nz.map V.int)/\TbA S tb qDr /\
   σ=[some (.ref a),some (.ref n),some (.ref l),some (.ref b),some (.ref t),some (.ref x),x6,x7,none,none,none,none,none,none,none,none,none]:=⟨_,rfl⟩
  obtain⟨TC2,ag⟩:∃ t':TS,t'=λD σ H'=>(∀ u H',Q u H'->D.rt u H')/\∃(n:Addr) (r:LN),NOk r/\L2.Same H H'/\H' n=some (.lst ((qS r).map V.str)) /\
   σ=[some (.ref a),some (.ref n),none,none,none,none,none,none,none,none,none,none,none,none,none,none,none]:=⟨_,rfl⟩
  show⟨_,(qe (qx (i:=1) kR.nd rfl (yJ rfl) (qD (qaP (K:=K) rfl) (qE uW (hmR C) qN (qa (qE Ku (hmR C) qN (qa (pv 0) (qa qg qb))) qb)) (qy (qa jN qb))))
 (qe (jf (qw (qdm (K:=K) rfl Y) jN (j9 (qfw (K:=K) rfl) (pv 1) qaw (zy (qcb qaH qg))) (by with_unfolding_all rfl)) (qf (qB (qgF (K:=K) rfl yH Xs Xu qeH (pv 1)))) qu)
 (qdt TC2 (qe (qx (i:=1) kR.nd rfl (yJ rfl) (j9 (qfw (K:=K) rfl) (pv 1) qaw (zy qg)))
 (qe (qx (i:=2) kR.nd rfl (yJ rfl) (qE u6 (hmR C) qN (qa (pv 1) (qa (qE Ku (hmR C) qN (qa (pv 0) (qa qg qb))) qb))))
 (qe (qx (i:=3) kR.nd rfl (yJ rfl) (qcg Ua (hmR C) (qa (pv 1) (qa (pv 2) qb))))
 (qe (qx (i:=4) kR.nd rfl (yJ rfl) (qy (qa (qG (qH (K:=K) rfl Y) (pv 1) (qD jH (qE Ku (hmR C) qN (qa (pv 0) (qa qg qb))) (qi (zo (K:=K) rfl) rfl T.b_len YH (qa (pv 1) qb))) (λ_ _=>rfl)) qb)))
 (qe (qx (i:=5) kR.nd rfl (yJ rfl) (qcg Kh (hmR C) (qa (pv 3) (qa (qG (qH (K:=K) rfl Y) (pv 4) qg (λ_ _=>rfl)) qb))))
 (qe (zW xq rfl (jR (K:=K) rfl (qE kY (hmR C) qN (qa (qE Ku (hmR C) qN (qa (pv 0) (qa qg qb))) (qa (qy (qa qg (qa qg (qa qg (qa qg qb))))) (qa qg qb))))) (qr (i:=6) kR.nd rfl (yJ rfl))
 (qe (qx (i:=7) kR.nd rfl (yJ rfl) (qE uX (hmR C) qN (qa (pv 1) (qa (pv 2) (qa (pv 4) qb)))))
 (qf (jf (PW.pt (qel (qw (qdl (K:=K) rfl Y) (pv 7) (qy qb) (qJ _)) (qda (qw qgs (pv 6) qg (qJ _))))) (qe (qB (qeb (K:=K) rfl yH Yh Yi jw (pv 4) (qa (qG (qH (K:=K) rfl Y) (pv 7) (qD jH (pv 6) (qi (zo (K:=K) rfl) rfl T.b_len YH (qa (pv 7) qb))) (λ_ _=>rfl)) qb)))
 (qf (qB (jo kT (hmR C) (pv 5) (qa (qG (qH (K:=K) rfl Y) (pv 4) (qcb qaH qg) (λ_ _=>rfl)) qb))))) qu))))
 (qdt TC8 (qe (qx (i:=8) kR.nd rfl (yJ rfl) (qE uf (hmR C) qN (qa (pv 5) qb)))
 (qe (zW xq rfl (zV rfl T.b_range (qa (qi (qcC rfl) rfl T.b_min boot_min (qa qg (qa (qi (call_max2 rfl) rfl T.b_max boot_max (qa qg (qa (qi (zo (K:=K) rfl) rfl T.b_len YH (qa (pv 0) qb)) qb))) qb))) qb)) (qr (i:=9) kR.nd rfl (yJ rfl))
 (qe (qbi (qE kY (hmR C) qN (qa (qD (qaP (K:=K) rfl) (qE Ku (hmR C) qN (qa (pv 0) (qa (pv 9) qb))) (pv 9)) (qa (qy (qa qg (qa qg (qa qg qb)))) (qa qg qb)))) (qdp rfl (qP (qr (i:=10) kR.nd rfl (yJ rfl)) (qP (qr (i:=11) kR.nd rfl (yJ rfl)) (qP (qr (i:=12) kR.nd rfl (yJ rfl)) qca)))))
 (qe (qx (i:=13) kR.nd rfl (yJ rfl) (qE uY (hmR C) qN (qa (pv 1) (qa (pv 11) qb))))
 (qe (qbi (qE u7 (hmR C) qN (qa (pv 10) (qa (pv 3) (qa (pv 5) (qa (pv 1) (qa (pv 13) (qa (qeb (K:=K) rfl yH PySem.F.slot_list_index PySem.F.type_list_index (k_index (K:=K) rfl) (pv 1) (qa (qG (qH (K:=K) rfl Y) (pv 4) (qD jH (pv 12) (qi (zo (K:=K) rfl) rfl T.b_len YH (qa (pv 4) qb))) (λ_ _=>rfl)) qb)) qb))))))) (qdp rfl (qP (qr (i:=14) kR.nd rfl (yJ rfl)) (qP (qr (i:=15) kR.nd rfl (xO rfl)) qca))))
 (qe (jf (PW.pt (qem (qw (qdl (K:=K) rfl Y) (qE uZ (hmR C) qN (qa (pv 14) qb)) (zC (sc:=qd qc6) (XN:=wqb) ["_law_kind","_law_due"] 1 [15] rfl rfl rfl (by room) rfl (by room)
  (zV rfl T.b_range (qa qg qb)) (λ_ _ _ _=>(qr (i:=0) (show(["_law_kind","_law_due"]:LN).Nodup by room) rfl (yJ rfl))) zn
  (λ_ _ _ _=>qaN)
  (λ_ _ _ _=>(zx (qch (K:=K) rfl Y) (pv 0) (qG (qH (K:=K) rfl Y) (pv 1) qg (λ_ _=>rfl)) (qJ _)))) (qJ _)) (qcx (qw (qdl (K:=K) rfl Y) (qE uF (hmR C) qN (qa (pv 14) qb)) (pv 15) (qJ _))))) (qf (qm qcv)) qu)
 (qe (qx (i:=16) kR.nd rfl (yJ rfl) (qE uF (hmR C) qN (qa (pv 14) qb)))
 (qe (jf (jg (qi (zb (K:=K) rfl) rfl T.b_isinstance yO (qa (pv 13) (qa (jz (v:=.ty "list") rfl T.b_list XA rfl) qb)))) (qf (qB (qeb (K:=K) rfl yH Yh Yi jw (pv 13) (qa jN qb)))) qu)
 (qf (jf (PW.pt (qem (qw (qdl (K:=K) rfl Y) (pv 16) (pv 15) (qJ _)) (qcx (qw (qdl (K:=K) rfl Y) (qE uf (hmR C) qN (qa (pv 5) qb)) (pv 8) (qJ _))))) (qf (qm qcv)) qu)))))))))
 (qf (qm (zx (qch (K:=K) rfl Y) (qG (qH (K:=K) rfl Y) (qv KD (hmR C) (pv 3)) qg (λ_ _=>rfl)) (zr (qci (K:=K) rfl) rfl T.b_tuple x4 (qa (pv 1) qb)) (qJ _)))))) ?cut8))))))) ?cut2))),?_⟩
  case cut2 =>
   intro D σ H1 h;rw[ag] at h;obtain⟨ba,n1,r,af,s1,ai,rfl⟩:=h;apply .inl ⟨n1,_,rfl,SqL.of ai,λn ac=>?_⟩
   have aa:qbm ((qS r).map V.str) none (some 14)=((qS r).take 14).map V.str:=by
    rw[show(some (14:Int))=some ((14:Nat):Int) from rfl,cutV_take,List.map_take]
   rw[aa];obtain⟨hO,X⟩:=nq_ok af;generalize (qS r).take 14=ss at hO X;have B:=qF s1 (o:=.lst (ss.map V.str)) ac;have hn:upd H1 n (.lst (ss.map V.str)) n=some (.lst (ss.map V.str)):=qc;generalize upd H1 n (.lst (ss.map V.str))=H2 at B hn ⊢;clear s1 ai aa;have em:0<ss.length:=YV.mpr X;apply⟨a,nz,_,rfl,B.seq hS,by decide,by decide,λc'=>?_⟩;apply⟨n,c',ss,rfl,hn,hO,λl ts tps ups H3 bd ez hl hT sh=>?_⟩;have s3:=B.trans bd;replace hn:=bd _ _ hn;ext;intro b eu dq cn eb;show qd1 hn hl.1 hl.2 hO hT sh dq cn eb.symm λns H4 au cj ah=>⟨rfl,?_⟩;have hW:=cj.web;have hw:=hW.ok;have hG:WG ss ns (zq ss tps ss):=WG.ofR hw hT sh ah;have hD:Duo ss ns (zq ss tps ss) ups:=⟨hG,duo_ti hT sh⟩;generalize zq ss tps ss=dps at hG hD;have s4:=s3.trans au;replace hn:=au _ _ hn;replace hl:=hl.same au;clear cj ah B bd s3 au;have few:=hw.few;apply⟨a,nz,_,rfl,s4.seq hS,by decide,by decide,λc2=>?_⟩;apply qbG hn ?_;rw[ya];show vI (show(0:Int)<(ss.length:Int) by lk) ?_;show qhp hn (yY _ (by lk)) (yR _ (by lk)) λst ad=>?_;apply⟨wq0,λt aq=>?_⟩;have al:=qF (Sr H4) (o:=.lst [.str st]) aq;have et:upd H4 t (.lst [.str st]) t=some (.lst ([st].map V.str)):=qc;generalize upd H4 t (.lst [.str st])=H5 at al et ⊢;ext;have dg:atI ([st].map V.str) 0=some (.str st):=qW (j:=0) rfl;show .inl (qbF et dg ?_);ext;intro Z N bc aw da;have sG:L2.Same H5 (upd (upd H5 N (.own Z)) Z (.ins (cc 10) N [])):=qF (qF (Sr H5) aw) (by rw[qh da.symm];show bc);have eG:upd (upd H5 N (.own Z)) Z (.ins (cc 10) N []) Z=some (.ins (cc 10) N []):=qc;generalize upd (upd H5 N (.own Z)) Z (.ins (cc 10) N [])=G at sG eG ⊢;show⟨Z,N,b,st,ss,ns,rfl,eG,(hW.same al).same sG,ad,λp0 H6 b6 cs cg=>⟨rfl,?_⟩⟩;have be:L2.Same H5 H6:=qbt sG b6 bc;have ak:=sG.free cs;have de:=al.trans be;have ef:t≠p0:=λe=>by rw[<- e,et] at ak;cases ak
   have cd:=be _ _ et;have ax:=al.free ak;clear sG eG b6 al be bc aw cs;obtain⟨di,cz,ct,_⟩:=id cg;obtain⟨S,ae⟩:∃ S:Hp,S=λc=>if c=p0\/c=t then none else H6 c:=⟨_,rfl⟩;have ce:∀ c,c≠p0->c≠t->S c=H6 c:=λc n1 n2=>by rw[ae];show yw (λz=>z.elim n1 n2)
   have bf:L2.Same S H6:=λc o e=>by
    rw[ae] at e;have e:(if c=p0\/c=t then none else H6 c)=some o:=e;split at e
    .cases e
    .show e
   have am:L2.Same H4 S:=λc o e=>by
    rw[ce c (λz=>by rw[z,ax] at e;cases e) (λz=>by rw[z,aq] at e;cases e)];show de _ _ e
   have g:LK (cc 10) cw S H6 Z b p0 t ss ns [st]:=by
    have ci:=hW.same am;show⟨bf,ci,⟨di,cz,ct,ci.same bf⟩,row_one ad,cd,ef,by rw[ae];show yB (.inl rfl),by rw[ae];show yB (.inr rfl)⟩
   have cr:=am _ _ hn;have du:=hl.same am;have bg:=s4.trans am;clear ae ce bf am cd cg cz ct de ax aq hW hn hl s4;apply⟨a,nz,_,rfl,(bg.trans g.same).seq hS,by decide,by decide,λc3=>?_⟩;apply⟨wq2,λbl dt=>?_⟩;have df:=qF (Sr H6) (o:=.lst [.int 13,.int 13,.int 13,.int 13]) dt;have bt:upd H6 bl (.lst [.int 13,.int 13,.int 13,.int 13]) bl=some (.lst (([13,13,13,13]:LY).map V.int)):=qc;replace g:=g.on df;generalize upd H6 bl (.lst [.int 13,.int 13,.int 13,.int 13])=H9 at g bt ⊢;clear df;ext
   show⟨bl,_,_,[13,13,13,13],rfl,bt,by decide,by decide,by decide,(λx hx=>by
    simp only[yt,yv,yN] at hx;rcases hx with rfl | rfl | rfl | rfl<;>decide),λnu as HA ei R A aj U=>?_⟩
   have db:nu≠p0:=λe=>by obtain⟨_,_,z,_⟩:=g.play;rw[e,z] at R;cases R
   have dc:nu≠t:=λe=>by rw[e,g.tr] at R;cases R
   replace g:=g.on ei;have aj:as.length=4:=aj;apply .inl ⟨⟨_,SqL.of A⟩,zw (K:=K) (λi σ H'=>∃ tr,LK (cc 10) cw S H' Z b p0 t ss ns tr/\tr.length<=i+1/\H' nu=some (.lst (as.map V.int))/\∃ x6 x7,σ=[some (.ref a),some (.ref n),some (.ref l),some (.ref b),some (.ref t),some (.ref Z),x6,x7,none,none,none,none,none,none,none,none,none]) ⟨[st],g,yg _,A,none,none,rfl⟩ (λi σ H' _ W=>by obtain⟨_,_,_,e,_⟩:=W;show SqL.of e) (λi y σ J hy W=>?_) fun σ J W=>?_⟩
   .obtain⟨tr,g,ar,A,x6,x7,rfl⟩:=W;have ey:i<4:=by have:=(yc.mp hy).1;rw[ya] at this;lk
    obtain⟨nb,rfl⟩:∃ nb,y=.int nb:=by
     obtain⟨nb,_,e⟩:=yK.mp (ye hy);show⟨nb,e.symm⟩
    obtain⟨z,hz⟩:∃ z,tr.getLast?=some z:=⟨_,List.getLast?_eq_some_getLast g.row.ne⟩;have L:z∈ss:=g.row.ins z (List.mem_of_getLast? hz);have bw:mvS ss ns tr z=mvL ups ss tr z:=mv_eq hw hD.wg.adj hD.ti L;apply⟨n,l,t,ss,ts,ups,tr,z,rfl,g.same _ _ cr,few,du.same g.same,g.tr,hz,λm J1 s1 fa hm=>?_⟩;rw[<- bw] at hm;replace g:=g.on s1;replace A:=s1 _ _ A;apply⟨by decide,λe he=>?_⟩;have B:=qF (Sr J1) (o:=.lst []) he;have ee:upd J1 e (.lst []) e=some (.lst []):=qc;replace hm:=B _ _ hm;replace g:=g.on B;replace A:=B _ _ A;generalize upd J1 e (.lst [])=J2 at ee hm g A ⊢;clear B s1;show .inr (.inl ⟨m,e,_,1,rfl,rfl,by decide,qfQ hm ee,?_⟩);apply qU (λh=>?_) λ_=>qU (λh=>by first | cases h | contradiction) λ_=>⟨tr,g,by lk,A,_,_,rfl⟩;have dv:mvS ss ns tr z≠[]:=by simpa using h
    have fb:0<(mvS ss ns tr z).length:=YV.mpr dv;apply qU (λ_=>?_) λ_=>⟨tr,g,by lk,A,_,_,rfl⟩;obtain⟨dx,hx,W,_⟩:=id g.play;apply⟨.inl ⟨rfl,_,SqL.of g.tr⟩,?_⟩;apply qbG hm ?_;rw[ya];show vI (show(0:Int)<((mvS ss ns tr z).length:Int) by lk) ?_;show qhp hm (yY _ (by lk)) (yR _ (by lk)) λv hv=>?_;have dz:v∈ss:=by rw[bw] at hv;show(yn.mp hv).1
    apply⟨t,_,_,rfl,rfl,g.tr,by rw[ya];show qk (by lk),?_⟩;have b3:But t J2 (upd J2 t (.lst (tr.map V.str++[.str v]))):=(But.refl t J2).put;have e3:upd J2 t (.lst (tr.map V.str++[.str v])) t=some (.lst ((tr++[v]).map V.str)):=by rw[qc,yD];rfl
    generalize upd J2 t (.lst (tr.map V.str++[.str v]))=J3 at b3 e3 ⊢;have ej:L2.Same S J3:=qbt g.same b3 g.t5;have cy:=b3 _ _ (jx hx g.tr (by intro z;cases z)) hx;have dp:PlayAt (cc 10) cw J3 Z b p0 ss ns tr:=⟨dx,cy,b3 _ _ g.np.symm W,g.web.same ej⟩;apply⟨Z,dx,_,rfl,cy,qR,?_⟩;apply vU ?_;show .inl (qbF e3 (qdv List.getLast?_concat) ?_);apply⟨Z,b,p0,ss,ns,tr,z,v,rfl,dp,by lk,hz,L,hv,λJ4 b4 e4=>?_⟩;have k4:qhW p0 t J2 J4:=λc o n1 n2 e=>b4 c o n1 (b3 c o n2 e);show⟨tr++[v],g.chg k4 e4 (b4 _ _ g.np e3) (g.row.snoc (by lk) hz hv dz),by rw[yx];show tr.length+1<=i+1+1;lk,k4 _ _ db dc A,_,_,rfl⟩
   obtain⟨tr,g,ar,A,x6,x7,rfl⟩:=W;rw[ya,aj] at ar;show TC8 _ _ _;rw[av];show⟨ba,S,Z,b,p0,n,l,t,ss,ns,dps,tr,x6,x7,g,ar,hG,cr,bg.seq hS,ap.same bg,rfl⟩
  case cut8 =>
   intro D σ H1 h;rw[av] at h;obtain⟨ba,S,x,b,p,n,l,t,ss,ns,dps,tr,x6,x7,g,ar,hG,hn,hS,ap,rfl⟩:=h;obtain⟨z,hz⟩:∃ z,tr.getLast?=some z:=⟨_,List.getLast?_eq_some_getLast g.row.ne⟩;have L:z∈ss:=g.row.ins z (List.mem_of_getLast? hz);have few:=g.web.ok.few;apply⟨x,b,p,ss,ns,tr,z,dps,rfl,g.play,hG,hz,L,by lk,g.row.ins,λsa J0 r er ch=>?_⟩
   have hL:LI K (cc 10) cw tb J0 a n b x p t sa nz ss ns dps tr z:=
    ⟨(g.same.trans r).seq hS,r _ _ (g.same _ _ hn),g.web.same (g.same.trans r),g.play.same r,r _ _ g.tr,ch,ap.same (g.same.trans r)⟩
   have X:∀ s∈tr,s∈ss:=g.row.ins;have es:0<tr.length:=YV.mpr g.row.ne;clear ch g hS ap hn r;apply qeC hL.scr ?_;apply⟨_,_,rfl,?_⟩;apply⟨_,_,rfl,?_⟩;ext;rw[ya];show⟨_,rfl,by split<;>split<;>lk,by split<;>split<;>lk,?_⟩;generalize hN:(Int.toNat _)=M;have ex:M<=24:=by rw[<- hN];split<;>split<;>lk
   clear hN;show qcA (λk σ G=>zS tb J0 G/\TbA G tb qDr/\∃ x9 bh bi bj bm bn bo bp,σ=[some (.ref a),some (.ref n),some (.ref l),some (.ref b),some (.ref t),some (.ref x),x6,x7,some (.ref sa),x9,bh,bi,bj,bm,bn,bo,bp]) ⟨λ_ _ _ e=>e,hL.tbl,none,none,none,none,none,none,none,none,rfl⟩ (λk σ J hk W=>?_) fun σ J W=>?_
   .obtain⟨bJ,TJ,x9,bh,bi,bj,bm,bn,bo,bp,rfl⟩:=W;have hJ:=hL.but bJ TJ;apply qf3 ?_;apply⟨a,nz,_,rfl,hJ.scr,by lk,by lk,λc2=>?_⟩;apply⟨by show 3<=sizeLine;decide,λb1 ds=>?_⟩;have s1:=qF (Sr J) (o:=.lst [.int 9,.int 997,.int 1009]) ds;have br:upd J b1 (.lst [.int 9,.int 997,.int 1009]) b1=some (.lst (([9,997,1009]:LY).map V.int)):=qc;generalize upd J b1 (.lst [.int 9,.int 997,.int 1009])=J1 at s1 br ⊢;ext
    show⟨b1,_,_,[9,997,1009],rfl,br,by decide,by decide,by decide,(λx hx=>by
     simp only[yt,yv,yN] at hx;rcases hx with rfl | rfl | rfl<;>decide),λnu as J2 B R A aj U=>?_⟩
    have s2:=s1.trans B
    match as,aj,U,A with
    | [dr,pick,at_],_,U,A =>
    have ew:=(U 0 dr 9 rfl rfl).1;have dm:=(U 1 pick 997 rfl rfl).1;have ev:=(U 2 at_ 1009 rfl rfl).1;clear U;show⟨nu,_,rfl,.inr (SqL.of A),rfl,_,_,rfl,_,_,rfl,_,_,rfl,rfl,?_⟩;ext;have ab:=hJ.but (jv s2) (TJ.same s2);obtain⟨fc,cu,_⟩:=id ab.tbl;show⟨n,ss,pick,rfl,ab.nm,(λe=>by rw[e] at L;cases L),ab.web.ok.nm,⟨_,cu⟩,dm,λv J3 s3 hB=>?_⟩;have I:=ab.but (jv s3) (ab.tbl.same s3);apply qf3 ?_;apply⟨.inl ⟨rfl,_,SqL.of I.nm⟩,?_⟩;apply qbG I.trl ?_;rw[ya];show vI (show(0:Int)<(tr.length:Int) by lk) ?_;show qhp I.trl (yY _ (by lk)) (yR _ (by lk)) λst ad=>?_;apply⟨n,ss,st,rfl,rfl,SqL.of I.nm,X st ad,?_⟩;apply⟨dr,(ss.idxOf st:Nat),b,x,p,n,v,st,z,ss,tr,ns,J2,rfl,I.web,I.play,hz,L,I.nm,hB,by rw[Yz];show yc.mpr ⟨List.idxOf_lt_length_iff.mpr (X st ad),YM _⟩,Int.natCast_nonneg _,ad,I.tbl,λt' fl d i o J4 b4 T4 aq et cm ed hk hf dd=>?_⟩;show⟨t',_,rfl,.inl (SqT.of et),rfl,_,_,rfl,_,_,rfl,rfl,?_⟩;have cf:=I.but b4 T4;have dh:zS tb J J4:=qbR (jv (s2.trans s3)) b4;apply⟨fl,i,o,rfl,hk,dd J4 (Sr J4),λr1 J5 s5 eo ao=>?_⟩;ext;have an:=s5 _ _ ed;show⟨8,rfl,by decide,by decide,qbb (lo:=0) (n:=8) (λc ys G=>G=J5/\ys=(List.range c).map λm=>V.bl (decide (m=kdN i))) ⟨rfl,rfl⟩ (λc ys G hc W=>?_) λys G W=>?_⟩
    .obtain⟨rfl,rfl⟩:=W;apply qbB ?_;apply .inl (qbF an (qW (j:=0) rfl) ?_);show .inl (.inl (.inl ⟨rfl,rfl,?_⟩));show⟨by rw[ya,xu];show qk (by lk),rfl,?_⟩;rw[xX,yD]
     congr 1
     have:eqV (V.int (0+(c:Int))) (V.int (kdN i:Int))=decide (c=kdN i):=by
      rw[Yn];simp[eqV];lk
     show [V.bl (eqV (V.int (0+(c:Int))) (V.int (kdN i:Int)))]=_;rw[this];rfl
    obtain⟨rfl,rfl⟩:=W;rw[kdB_eq hk];show⟨by show 8<=sizeLine;decide,λr2 cx=>?_⟩;have s6:=qF (Sr G) (o:=.lst (kdB i)) cx;have bz:upd G r2 (.lst (kdB i)) r2=some (.lst (kdB i)):=qc;replace ao:=s6 _ _ ao;replace an:=s6 _ _ an;replace s6:=s5.trans s6;generalize upd G r2 (.lst (kdB i))=J6 at s6 ao bz an ⊢;show .inr (.inl ⟨r1,r2,true,1,rfl,rfl,by decide,qe4 ao bz (λy hy=>by obtain⟨_,_,rfl⟩:=yK.mp hy;show .inl rfl),?_⟩);apply yo ?_;apply⟨fl,i,o,rfl,hk,dd J6 s6,λr3 J7 eg ep dj=>?_⟩;have s7:=s6.trans eg;apply .inr (.inl ⟨r3,d,true,1,rfl,rfl,by decide,qe4 dj (s7 _ _ ed) (qfU hf),?_⟩);apply yo ?_;apply⟨fl,i,o,rfl,hk,dd J7 s7,λr4 J8 eh ay ca=>?_⟩;have s8:=s7.trans eh;have bu:=s8 _ _ ed;have bb:=cf.but (jv s8) (cf.tbl.same s8);have bq:=qbh dh s8;have dn:=(hB.butT b4).same s8;ext;obtain⟨tv,dy,ty,hl⟩:=dn.th.lty (K:=K);show qaV (.inl ty) rfl (qbc K tv dy "list" (by simp)) ?_;ext
    cases hi:qbU tv "list" with
    | false =>
     show yo ?_
     with_reducible show qgB ?_
     with_reducible show qhX ?_
     show qe5 bb hG hz L (by lk) X ca bu hf rfl rfl rfl rfl λG sG=>⟨qbh (qbR bJ bq) sG,bb.tbl.same sG,_,_,_,_,_,_,_,_,rfl⟩
    | true =>
     obtain⟨c,xs,rfl,ec,lc⟩:=hl hi;have cl:J0 c=none:=qa8 (qbR bJ (jv s2)) ab.tbl (hB.fr c rfl);show qbB ?_;apply⟨.inl ⟨rfl,_,SqL.of ec⟩,?_⟩;apply⟨c,xs,_,rfl,rfl,ec,YG lc (by decide),?_⟩;have b9:But c J8 (upd J8 c (.lst (xs++[.str "zz"]))):=(But.refl c J8).put;have T9:TbA (upd J8 c (.lst (xs++[.str "zz"]))) tb qDr:=tbA_keep bb.tbl λq o e ne=>b9 q o (λz=>by rw[z,ec] at e;show ne _ (yl e).symm) e;have az:zS tb J0 (upd J8 c (.lst (xs++[.str "zz"]))):=λq o ne e=>b9 q o (λz=>by rw[z,cl] at e;cases e) (bq q o ne (bJ q o ne e));obtain⟨oc,ck,ea⟩:=hB.th.has;have cb:=b9 _ _ (λz=>by rw[z,s7 _ _ (b4 _ _ ea ck)] at ay;cases ay) ca;have bv:=b9 _ _ (λz=>by rw[z,ck] at cm;cases cm) bu;generalize upd J8 c (.lst (xs++[.str "zz"]))=J9 at b9 T9 az cb bv ⊢
     with_reducible show qhX ?_
     show qe5 (hL.but az T9) hG hz L (by lk) X cb bv hf rfl rfl rfl rfl λG sG=>⟨qbh az sG,T9.same sG,_,_,_,_,_,_,_,_,rfl⟩
   .obtain⟨bJ,TJ,x9,bh,bi,bj,bm,bn,bo,bp,rfl⟩:=W;have hJ:=hL.but bJ TJ;obtain⟨wx,dd,ol,nn,hb,_⟩:=id hJ.web;apply⟨b,wx,_,rfl,hb,qau (by room),?_⟩;apply⟨b,ss,ns,rfl,hJ.web,λt0 t1 t2 l0 ts G sG dk dl _ _=>?_⟩;apply .inl (qe8 dk (qW (j:=0) rfl) ?_);apply⟨n,_,rfl,.inl ⟨SqL.of (hJ.but (jv sG) (hJ.tbl.same sG)).nm,λt3 dw=>?_⟩⟩;have s3:=qF (Sr G) (o:=.tup (ss.map V.str)) dw;show .inl (.inl (.inr (.inl ⟨t1,t3,true,1,rfl,rfl,by decide,qb8 (s3 _ _ dl) qc rfl (λj x y a b=>by rw[a] at b;cases b;show qbu x (ye a)),?_⟩)));show ba _ _ (q _)
  apply⟨a,nz,_,rfl,hS,by decide,by decide,λc=>?_⟩;apply⟨c,rfl,λn0 r H1 s1 el ac af=>?_⟩;apply⟨wq0,λq1 cv=>?_⟩;have s2:=qF s1 (o:=.lst [.str "q"]) cv;have bx:upd H1 q1 (.lst [.str "q"]) q1=some (.lst [.str "q"]):=qc;replace ac:=qF (Sr H1) (o:=.lst [.str "q"]) cv _ _ ac;generalize upd H1 q1 (.lst [.str "q"])=H2 at s2 bx ac ⊢;have co:(r.map V.str).length + [V.str "q"].length<=15:=by have:=af.few;rw[ya];show r.length+1<=15;lk
  show .inl ⟨n0,q1,_,_,rfl,rfl,ac,bx,yh co (by decide),λn1 ai=>?_⟩;have s3:=qF s2 (o:=.lst (r.map V.str++[.str "q"])) ai;have O:upd H2 n1 (.lst (r.map V.str++[.str "q"])) n1=some (.lst ((r++[("q":Str)]).map V.str)):=by rw[qc,yD];rfl
  generalize upd H2 n1 (.lst (r.map V.str++[.str "q"]))=H3 at s3 O ⊢;have cq:H n1=none:=s2.free ai;apply⟨1,rfl,_,rfl,?_⟩;show .inl ⟨n1,_,rfl,SqL.of O,λd hd=>?_⟩
  have aa:qbm ((r++[("q":Str)]).map V.str) none (some (-1))=r.map V.str:=by
   rw[qd5 _ (by simp),yD];show List.dropLast_concat
  rw[aa];have s4:=qF s3 (o:=.lst (r.map V.str)) hd;have ed:upd H3 d (.lst (r.map V.str)) d=some (.lst (r.map V.str)):=qc;replace O:=qF (Sr H3) (o:=.lst (r.map V.str)) hd _ _ O;generalize upd H3 d (.lst (r.map V.str))=H4 at s4 ed O ⊢;show str_in ed ?_;show⟨_,rfl,?_⟩;show qU (λh=>?_) λh=>?_
  .have hq:("q":Str)∈r:=yj h;apply⟨.inl ⟨rfl,_,SqL.of O⟩,?_⟩;show⟨n1,_,.str "q",rfl,rfl,O,by simp,?_⟩;rw[show((r++[("q":Str)]).map V.str).dropLast=r.map V.str by rw[yD];show List.dropLast_concat];show TC2 _ _ _;rw[ag];show⟨λ_ _ z=>z,n1,r,af,s4.put cq,by unfold qS;rw[yB hq];show qc,rfl⟩
  .have hq:("q":Str)∉r:=λz=>h (yL z);show TC2 _ _ _;rw[ag];show⟨λ_ _ z=>z,n1,r,af,s4,by unfold qS;rw[yw hq];show O,rfl⟩
end
theorem qbw{k:Nat}:FnOk P w K mg base CX k f fd ps (λ_ _ _ _=>False):=⟨λ_ _ _ _ h=>h.elim,by intros;contradiction⟩
theorem mr_of{D:Addr}{b c:List Value}{v:Bool}(x:XL K C b)(y:XL K D c)(e:W.kitOne K (.ref C) (.ref D)=some v):W.mroIn K C (.ref D)=some v:=by
 rw[x.kit y] at e;rw[<- e];obtain⟨p,q,N,bs,a,sn,g,h,d,i,j,l,m,n,o,f⟩:=x;unfold W.mroIn W.clsIn;rw[f];rfl
theorem all_mk{l:W.OpenLaw}{h:Heap}{fa d b cB bm q r t u x y z A B a:Addr}{J L M O N:Tok}(X:K.In h)(G:h.Ns mainGlobals mg)(ae:mg "law"=some (.ref fa))
  (C0_:W.nsIn K mainGlobals "NoName"=some (some (.ref q)))
  (C1_:W.nsIn K mainGlobals "Twice"=some (some (.ref r)))
  (C2_:W.nsIn K mainGlobals "NoPlace"=some (some (.ref t)))
  (C3_:W.nsIn K mainGlobals "NoTie"=some (some (.ref u)))
  (C4_:W.nsIn K mainGlobals "TooMany"=some (some (.ref x)))
  (C5_:W.nsIn K mainGlobals "NoMove"=some (some (.ref y)))
  (C6_:W.nsIn K mainGlobals "NoBack"=some (some (.ref z)))
  (C7_:W.nsIn K mainGlobals "NoText"=some (some (.ref A)))
  (C8_:W.nsIn K mainGlobals "NoNumbers"=some (some (.ref B)))
  (C9_:W.nsIn K mainGlobals "OnceError"=some (some (.ref a)))
  (Cw_:W.nsIn K mainGlobals "Web"=some (some (.ref d)))
  (Cp_:W.nsIn K mainGlobals "Play"=some (some (.ref b)))
  (vb:FG K "is_whole" qas)
  (U0:FG K "is_within" zO)
  (vy:FG K "is_name" qaa)
  (US:FG K "count_from" qbk)
  (Vd:FG K "played" qbs)
  (UD:FG K "rows_within" jY)
  (U1:FG K "rows_from" qbT)
  (UT:FG K "all_within" zl)
  (Uk:FG K "words_from_start" qT)
  (vc:FG K "go_along" qb9)
  (U2:FG K "read_play" zP)
  (vz:FG K "has_bit" qa0)
  (vd:FG K "is_place" qan)
  (Uq:FG K "are_two_places" jr)
  (UU:FG K "numbers_of" ze)
  (vA:FG K "near_of" qa2)
  (Ve:FG K "_law_cell" qbq)
  (U3:FG K "_law_numbers" zJ)
  (vD:FG K "_law_names" qae)
  (Vf:FG K "_law_ties" qar)
  (Vg:FG K "_law_tied" qbr)
  (vE:FG K "_law_moves" qag)
  (vF:FG K "_law_kinds" qa6)
  (Vh:FG K "_law_held" qbv)
  (vG:FG K "_law_thing" j7)
  (Vi:FGC K "_law_door" qj cB)
  (vH:FG K "_law_state" qa9)
  (we:FG K "law" qc6)
  (wL:FM K q "__init__" "NoName.__init__" jU)
  (wM:FM K r "__init__" "Twice.__init__" zc)
  (wN:FM K t "__init__" "NoPlace.__init__" jK)
  (wO:FM K u "__init__" "NoTie.__init__" zd)
  (wP:FM K x "__init__" "TooMany.__init__" jL)
  (wQ:FM K y "__init__" "NoMove.__init__" jW)
  (wR:FM K z "__init__" "NoBack.__init__" jX)
  (wS:FM K A "__init__" "NoText.__init__" jV)
  (wT:FM K B "__init__" "NoNumbers.__init__" jq)
  (wU:FC K a "__init__" "OnceError.__init__" jp)
  (wV:FM K d "__init__" "Web.__init__" qao)
  (ve:FM K d "places" "Web.places" zf)
  (Vj:FM K d "ties" "Web.ties" qap)
  (UE:FM K d "has_place" "Web.has_place" jC)
  (UF:FM K d "number_of" "Web.number_of" jD)
  (vf:FM K d "beside" "Web.beside" zg)
  (Us:FM K d "bits_beside" "Web.bits_beside" jd)
  (Vk:FM K d "told" "Web.told" qaq)
  (UV:FM K d "names_in" "Web.names_in" jj)
  (U4:FM K d "without" "Web.without" je)
  (UG:FM K b "__init__" "Walk.__init__" j6)
  (Uw:FM K b "stands_at" "Walk.stands_at" jt)
  (vJ:FM K b "gone" "Walk.gone" zK)
  (vK:FM K b "hand" "Walk.hand" zL)
  (vg:FM K b "ended" "Walk.ended" zi)
  (vh:FM K b "loser" "Walk.loser" zj)
  (UW:FM K b "move_to" "Walk.move_to" jk)
  (vL:FM K b "back" "Walk.back" zM)
  (vM:FM K b "left" "Play.left" zN)
  (vi:FM K b "moves" "Play.moves" zh)
  (UH:FM K b "not_gone" "Play.not_gone" qY)
  (V1:FM K b "go" "Play.go" qaf)
  (UI:FM K b "web_left" "Play.web_left" jE)
  (UJ:FM K b "position" "Play.position" jF)
  (vN:FM K b "twin" "Play.twin" qbQ)
  (X0:XL K q (.ref a::qat))
  (q0:XQ K q)
  (X1:XL K r (.ref a::qat))
  (q1:XQ K r)
  (X2:XL K t (.ref a::qat))
  (q2:XQ K t)
  (X3:XL K u (.ref a::qat))
  (q3:XQ K u)
  (X4:XL K x (.ref a::qat))
  (q4:XQ K x)
  (X5:XL K y (.ref a::qat))
  (q5:XQ K y)
  (X6:XL K z (.ref a::qat))
  (q6:XQ K z)
  (X7:XL K A (.ref a::qat))
  (q7:XQ K A)
  (X8:XL K B (.ref a::qat))
  (q8:XQ K B)
  (X9:XL K a qat)
  (q9:XQ K a)
  (y0:W.findIn K (.ref q) "found"=some none)
  (y1:W.findIn K (.ref r) "name"=some none)
  (y2:W.findIn K (.ref t) "found"=some none)
  (y3:W.findIn K (.ref u) "found"=some none)
  (y4:W.findIn K (.ref x) "many"=some none)
  (y5:W.findIn K (.ref y) "found"=some none)
  (y6:W.findIn K (.ref z) "found"=some none)
  (y7:W.findIn K (.ref A) "at"=some none)
  (y8:W.findIn K (.ref B) "found"=some none)
  (ah:W.mroIn K q (.ref a)=some true)
  (ai:W.mroIn K r (.ref a)=some true)
  (aj:W.mroIn K t (.ref a)=some true)
  (ak:W.mroIn K u (.ref a)=some true)
  (al:W.mroIn K x (.ref a)=some true)
  (am:W.mroIn K y (.ref a)=some true)
  (ao:W.mroIn K z (.ref a)=some true)
  (ap:W.mroIn K A (.ref a)=some true)
  (aq:W.mroIn K B (.ref a)=some true)
  (nd:([q,r,t,u,x,y,z,A,B]++[a]).Nodup)
  (r1:W.readsIn K a (.type "type")=true)
  (r3:W.specialIn K (.ref a) "__getattribute__"=some (some (.builtin "type.__getattribute__")))
  (v1:W.findIn K (.type "type") "__getattribute__"=some (some (.builtin "type.__getattribute__")))
  (v3:W.subIn K (.type "type") (.type "type")=some true)
  (v4:W.findCls K (.type "ValueError") (.type "type") "__init__"=some (.val (.builtin "ValueError.__init__")))
  (w1:W.plainGet K d Str.empty=true)
  (w2:W.hasDictIn K d=true)
  (w3:W.plainOver K d=true)
  (w4:W.findIn K (.ref d) "__setattr__"=some (some (.builtin "object.__setattr__")))
  (w5:W.makesIn K d=true)
  (w6:W.keepIn K (.ref d)=true)
  (w7:W.findIn K (.ref d) "numbers"=some none)
  (w8:W.findIn K (.ref d) "order"=some none)
  (w9:W.findIn K (.ref d) "near"=some none)
  (m:W.specialIn K (.builtin "object.__class__") "__get__"=some (some (.builtin "getset_descriptor.__get__")))
  (o:W.takesIn K (.builtin "object.__class__")=some true)
  (ar:W.plainGet K b Str.empty=true)
  (as:W.hasDictIn K b=true)
  (au:W.plainOver K b=true)
  (av:W.findIn K (.ref b) "__setattr__"=some (some (.builtin "object.__setattr__")))
  (F:W.makesIn K b=true)
  (I:W.keepIn K (.ref b)=true)
  (aw:W.findIn K (.ref b) "board"=some none)
  (ax:W.findIn K (.ref b) "path"=some none)
  (gr:W.nsIn K mainGlobals "MOST_FOR_ROWS"=some (some (.int 3 O)))
  (gn:W.nsIn K mainGlobals "MOST_FOR_THEIR_NUMBER"=some (some (.int 5 N)))
  (ad:qhh K cB tb=true)
  (ac:W.nsIn K mainGlobals "__builtins__"=some (some (.ref bm)))
  (ab:bmB K bm tb=true)
  (z0:W.nsIn K mainGlobals "len"=some none)
  (z1:W.nsIn K mainGlobals "int"=some none)
  (z2:W.nsIn K mainGlobals "enumerate"=some none)
  (z3:W.nsIn K mainGlobals "all"=some none)
  (z4:W.nsIn K mainGlobals "max"=some none)
  (z5:W.nsIn K mainGlobals "min"=some none)
  (z6:W.nsIn K mainGlobals "isinstance"=some none)
  (z7:W.nsIn K mainGlobals "bool"=some none)
  (z8:W.nsIn K mainGlobals "str"=some none)
  (z9:W.nsIn K mainGlobals "range"=some none)
  (ay:W.nsIn K mainGlobals "list"=some none)
  (az:W.nsIn K mainGlobals "tuple"=some none)
  (ba:W.nsIn K mainGlobals "ValueError"=some none)
  (u0:W.nsIn K mainGlobals "LONGEST_NAME"=some (some (.int 6 J)))
  (u1:W.nsIn K mainGlobals "MOST_PLACES"=some (some (.int 14 L)))
  (u2:W.nsIn K mainGlobals "MOST_TIES"=some (some (.int 30 M))) :
  ∃ fd:FuncData,(∀(s:Shared) (v:Value),BindsTo s fd ⟨[v],[]⟩ [("_law_script",v)])/\∀ base:Heap,K.In base->base.Ns mainGlobals mg->FnOk l.prog w K mg base CX0 18 fa fd wqS (qd7 K tb):=by
 obtain⟨_,_,vk,Vs⟩:=vb;obtain⟨_,_,U5,Vt⟩:=U0;obtain⟨_,_,vO,Vu⟩:=vy;obtain⟨_,_,UX,wf⟩:=US;obtain⟨_,_,Vl,Vv⟩:=Vd;obtain⟨_,_,UK,Vw⟩:=UD;obtain⟨_,_,U6,wj⟩:=U1;obtain⟨_,_,UY,Vx⟩:=UT;obtain⟨_,_,Ul,Vy⟩:=Uk;obtain⟨_,_,vm,wl⟩:=vc;obtain⟨_,_,U7,Vz⟩:=U2;obtain⟨_,_,vP,VA⟩:=vz;obtain⟨_,_,vn,VB⟩:=vd;obtain⟨_,_,Ur,VC⟩:=Uq;obtain⟨_,_,UZ,VD⟩:=UU;obtain⟨_,_,vQ,VE⟩:=vA;obtain⟨_,_,Vm,VF⟩:=Ve;obtain⟨_,_,U8,VG⟩:=U3;obtain⟨_,_,vR,VH⟩:=vD;obtain⟨_,_,Vn,VI⟩:=Vf;obtain⟨_,_,Vo,VJ⟩:=Vg;obtain⟨_,_,vS,VL⟩:=vE;obtain⟨_,_,vT,VM⟩:=vF;obtain⟨_,_,Vp,VN⟩:=Vh;obtain⟨_,_,vV,VO⟩:=vG;obtain⟨_,_,Vq,VP,af⟩:=Vi;obtain⟨_,_,vW,VQ⟩:=vH;obtain⟨_,_,wm,VR⟩:=we;obtain⟨_,_,wW,wX,V2⟩:=wL;obtain⟨_,_,wY,wZ,V3⟩:=wM;obtain⟨_,_,Wa,Wb,V4⟩:=wN;obtain⟨_,_,Wc,Wd,V5⟩:=wO;obtain⟨_,_,We,Wf,V6⟩:=wP;obtain⟨_,_,Wg,Wh,V7⟩:=wQ;obtain⟨_,_,Wi,Wj,V8⟩:=wR;obtain⟨_,_,Wl,Wm,V9⟩:=wS;obtain⟨_,_,Wn,Wo,wa⟩:=wT;obtain⟨_,_,Wp,wb⟩:=wU;obtain⟨_,_,wc,wd,Vr⟩:=wV;obtain⟨_,_,wp,wq,VS⟩:=ve;obtain⟨_,_,wt,wu,VT⟩:=Vj;obtain⟨_,_,ww,wy,VU⟩:=UE;obtain⟨_,_,wz,wA,VV⟩:=UF;obtain⟨_,_,wB,wC,VW⟩:=vf;obtain⟨_,_,wD,wE,VX⟩:=Us;obtain⟨_,_,wF,wG,VY⟩:=Vk;obtain⟨_,_,wH,wI,VZ⟩:=UV;obtain⟨_,_,wJ,wK,V0⟩:=U4;obtain⟨_,_,Uf,Ug,R⟩:=UG;obtain⟨_,_,Ux,Uy,Ue⟩:=Uw;obtain⟨_,_,vX,vY,Uz⟩:=vJ;obtain⟨_,_,vZ,v0,UA⟩:=vK;obtain⟨_,_,vo,vp,Ut⟩:=vg;obtain⟨_,_,vq,vv,Uu⟩:=vh;obtain⟨_,_,Um,Uo,S⟩:=UW;obtain⟨_,_,v6,v7,UB⟩:=vL;obtain⟨_,_,v8,v9,UC⟩:=vM;obtain⟨_,_,vw,vx,Uv⟩:=vi;obtain⟨_,_,UL,UM,Uh⟩:=UH;obtain⟨_,_,U9,va,U⟩:=V1;obtain⟨_,_,UO,UP,Ui⟩:=UI;obtain⟨_,_,UQ,UR,Uj⟩:=UJ;obtain⟨_,_,Va,Vb,Vc⟩:=vN;have e:=ae.symm.trans (xm X G wm);cases e;have Y0:XAt K q:=qbV X0 zF q0 m o;have Y1:XAt K r:=qbV X1 zF q1 m o;have Y2:XAt K t:=qbV X2 zF q2 m o;have Y3:XAt K u:=qbV X3 zF q3 m o;have Y4:XAt K x:=qbV X4 zF q4 m o;have Y5:XAt K y:=qbV X5 zF q5 m o;have Y6:XAt K z:=qbV X6 zF q6 m o;have Y7:XAt K A:=qbV X7 zF q7 m o;have Y8:XAt K B:=qbV X8 zF q8 m o;have Y9:XAt K a:=qbV X9 qeI q9 m o;obtain⟨E,bb,ag,bc⟩:=kits nd (λi C=>match i,C with | 0,_=>X0 | 1,_=>X1 | 2,_=>X2 | 3,_=>X3 | 4,_=>X4 | 5,_=>X5 | 6,_=>X6 | 7,_=>X7 | 8,_=>X8 | n+9,h=>absurd h (by simp only[Yb,xF];lk)) X9;have p:Cls K d:=⟨w1,w2,w3,w4⟩;have c:Cls K b:=⟨ar,as,au,av⟩;have Xg:∀ i,i<9->XL K (([q,r,t,u,x,y,z,A,B]:LX).getD i a) (.ref a::qat):=λi C=>match i,C with | 0,_=>X0 | 1,_=>X1 | 2,_=>X2 | 3,_=>X3 | 4,_=>X4 | 5,_=>X5 | 6,_=>X6 | 7,_=>X7 | 8,_=>X8 | n+9,h=>absurd h (by lk);have D:∀ i,i<10->([q,r,t,u,x,y,z,A,B,a]:LX).getD i b=([q,r,t,u,x,y,z,A,B]:LX).getD i a:=λi C=>match i,C with | 0,_=>rfl | 1,_=>rfl | 2,_=>rfl | 3,_=>rfl | 4,_=>rfl | 5,_=>rfl | 6,_=>rfl | 7,_=>rfl | 8,_=>rfl | 9,_=>rfl | n+10,h=>absurd h (by lk);have T:Txt K mg (λi=>([q,r,t,u,x,y,z,A,B,a]:LX).getD i b) d:=⟨YE X G z0,
  YE X G z1,
  YE X G z2,
  YE X G z3,
  YE X G z4,
  YE X G z5,
  YE X G z6,
  YE X G z7,
  YE X G z8,
  YE X G z9,
  YE X G ay,
  YE X G az,
  YE X G ba,
  ⟨J,xm X G u0⟩,
  ⟨L,xm X G u1⟩,
  ⟨M,xm X G u2⟩,
  xm X G C0_,
  xm X G C1_,
  xm X G C2_,
  xm X G C3_,
  xm X G C4_,
  xm X G C5_,
  xm X G C6_,
  xm X G C7_,
  xm X G C8_,
  xm X G C9_,
  ⟨v1,v3,v4⟩,
  λi C=>match i,C with | 0,_=>Y0 | 1,_=>Y1 | 2,_=>Y2 | 3,_=>Y3 | 4,_=>Y4 | 5,_=>Y5 | 6,_=>Y6 | 7,_=>Y7 | 8,_=>Y8 | 9,_=>Y9 | n+10,h=>absurd h (by lk),
  λi C=>match i,C with | 0,_=>y0 | 1,_=>y1 | 2,_=>y2 | 3,_=>y3 | 4,_=>y4 | 5,_=>y5 | 6,_=>y6 | 7,_=>y7 | 8,_=>y8 | n+9,h=>absurd h (by lk),
  (λi j C Z=>by rw[D i (by lk),D j (by lk)];show E i j C Z),
  (λi C=>by rw[D i (by lk)];show ag i C),
  λi C=>match i,C with | 0,_=>ah | 1,_=>ai | 2,_=>aj | 3,_=>ak | 4,_=>al | 5,_=>am | 6,_=>ao | 7,_=>ap | 8,_=>aq | n+9,h=>absurd h (by lk),
  p,
  w7,
  w8,
  w9,
  xm X G Cw_,
  xm X G Cp_,
  c,
  aw,
  ax,
  ⟨O,xm X G gr⟩,
  ⟨N,xm X G gn⟩,
  (λi j C Z=>by rw[D i (by lk),D j (by lk)];show mr_of (Xg i C) (Xg j Z) (E i j C Z))⟩
 obtain⟨oc,od,kV,aa,pm,an,cd,ct,sl,rfl,lk,hc⟩:=VR.ex;show⟨W.fnOf "law" "law" (qay qc6) (jJ qc6) (qd qc6) .none kV aa pm an cd ct,λs v=>.of_eq rfl,λbase kb nb=>?_⟩;have d_once:CMethOk l.prog w K mg base CX0 1 a "OnceError" "__init__" wqr (zZ K):=fc_mk X G C9_ r1 Wp r3 wb (ok_once wb T);have d0:XMakeOk l.prog w K mg base 2 q "NoName" wqa (spX q (qam 0)):=qck X G C0_ Y0 q0 wW wX V2 (ok_NoName V2 T d_once);have d1:XMakeOk l.prog w K mg base 2 r "Twice" wql (spX r (qam 1)):=qck X G C1_ Y1 q1 wY wZ V3 (ok_Twice V3 T d_once);have Y:XMakeOk l.prog w K mg base 2 t "NoPlace" wqa (spX t (qam 2)):=qck X G C2_ Y2 q2 Wa Wb V4 (ok_NoPlace V4 T d_once);have d3:XMakeOk l.prog w K mg base 2 u "NoTie" wqa (spX u (qam 3)):=qck X G C3_ Y3 q3 Wc Wd V5 (ok_NoTie V5 T d_once);have d4:XMakeOk l.prog w K mg base 2 x "TooMany" wqJ (spX x (qam 4)):=qck X G C4_ Y4 q4 We Wf V6 (ok_TooMany V6 T d_once);have d5:XMakeOk l.prog w K mg base 2 y "NoMove" wqa (spX y (qam 5)):=qck X G C5_ Y5 q5 Wg Wh V7 (ok_NoMove V7 T d_once);have d6:XMakeOk l.prog w K mg base 2 z "NoBack" wh (qhj z):=qck X G C6_ Y6 q6 Wi Wj V8 (ok_NoBack V8 T d_once);have d7:XMakeOk l.prog w K mg base 2 A "NoText" wqR (spX A (qam 7)):=qck X G C7_ Y7 q7 Wl Wm V9 (ok_NoText V9 T d_once);have d8:XMakeOk l.prog w K mg base 2 B "NoNumbers" wqa (spX B (qam 8)):=qck X G C8_ Y8 q8 Wn Wo wa (ok_NoNumbers wa T d_once);have f:=@fg_mk l.prog w K mg base h;have g:=@fm_mk l.prog w K mg base;have fw:=@fw_mk l.prog w K mg base h;have d_name:=f X G vO Vu (ok_name Vu T);have d_place:=f X G vn VB (ok_place VB d_name);have d_two:=f X G Ur VC (ok_two VC T d_place);have d_bit:=f X G vP VA (ok_bit VA);have d_nums:=f X G UZ VD (ok_nums VD T d_name d0 d1 d4);have d_near:=f X G vQ VE (ok_near VE T d_two d_bit d3 d4);have o_web:=ok_web Vr T d_nums d_near;have q_web:MakeOk l.prog w K mg base CX0 5 d "Web" wqx (λvs H Q _=>qee (λi=>([q,r,t,u,x,y,z,A,B,a]:LX).getD i b) d vs H Q E0):=fw X G Cw_ w5 w6 wc wd Vr o_web.quiet;have m_web:MakeOk l.prog w K mg base (CX1 l.prog w) 5 d "Web" wqx (qee (λi=>([q,r,t,u,x,y,z,A,B,a]:LX).getD i b) d):=fw X G Cw_ w5 w6 wc wd Vr o_web;have m_has:=g p ww wy VU (ok_has VU T d_place);have o_num:=ok_num VV T m_has Y;have m_num:=g p wz wA VV o_num;have o_bb:=ok_bb VX T m_num;have m_bb:=g p wD wE VX o_bb;have m_nin:=g p wH wI VZ (ok_nin VZ T d_bit);have o_bs:=ok_bs VW T m_bb m_nin;have q_bs:=g p wB wC VW o_bs.quiet;have m_pls:=g p wp wq VS (ok_pls VS T);have m_ts:=g p wt wu VT (ok_ts VT T q_bs);have m_told:=g p wF wG VY (ok_told VY T m_ts);have o_wout:=ok_wout V0 T m_num m_ts m_web Y;have q_wout:=g p wJ wK V0 o_wout.quiet;have o_wkI:=ok_wkI (P:=l.prog) (w:=w) (base:=base) R T m_has;have m_play:MakeOk l.prog w K mg base CX0 5 b "Play" wqi (qeX (λi=>([q,r,t,u,x,y,z,A,B,a]:LX).getD i b) d):=fw X G Cp_ F I Uf Ug R o_wkI;have m_playB:MakeOk l.prog w K mg base (CX1 l.prog w) 5 b "Play" wqi (qeZ (λi=>([q,r,t,u,x,y,z,A,B,a]:LX).getD i b) d):=fw X G Cp_ F I Uf Ug R (FnOk.or o_wkI.any (ok_wkX R T Y m_has));have p_std:=g c Ux Uy Ue (ok_ps Ue T);have p_gone:=g c vX vY Uz (ok_pgn Uz T);have p_hand:=g c vZ v0 UA (ok_ph UA T);have p_ng:=g c UL UM Uh (ok_ng Uh T);have p_mv:=g c vw vx Uv (ok_pm Uv T q_bs p_std p_ng);have p_end:=g c vo vp Ut (ok_end Ut T p_mv);have p_los:=g c vq vv Uu (ok_los Uu T p_end p_hand);have p_left:=g c v8 v9 UC (ok_lft UC T m_pls p_ng);have p_mvt:=g c Um Uo S (ok_mvt S T p_mv);have o_go:=ok_pgo U T p_mvt;have p_go:=g c U9 va U o_go;have p_mvtX:=g c Um Uo S (ok_mvtX S T d5 p_mv);have p_goB:MethOk l.prog w K mg base (CX1 l.prog w) 9 b "go" wql (qe0 (λi=>([q,r,t,u,x,y,z,A,B,a]:LX).getD i b) d):=g c U9 va U (FnOk.or o_go.any (ok_pgoX U T p_mvtX));have p_bkX:=g c v6 v7 UB (ok_bkX UB T d6);have p_wl:=g c UO UP Ui (ok_wl Ui T q_wout);have p_pos:=g c UQ UR Uj (ok_pos Uj T p_std p_wl m_told);have p_tw:MethOk l.prog w K mg base CX0 1 b "twin" wh (λ_ _ _ _=>False):=g c Va Vb Vc qbw;have d_rfF:DefOk l.prog w K mg base CX0 1 "rows_from" wqs (λ_ _ _ _=>False):=f X G U6 wj (qbw);have d_cfF:DefOk l.prog w K mg base CX0 1 "count_from" ["walk","many"] (λ_ _ _ _=>False):=f X G UX wf (qbw);have d_gaF:DefOk l.prog w K mg base (CX1 l.prog w) 1 "go_along" ["walk","words"] (λ_ _ _ _=>False):=f X G vm wl (qbw);have d_wh:=f X G vk Vs (ok_wh Vs T);have qg2:=f X G U5 Vt (ok_wti Vt d_wh);have d_rwX:=f X G UK Vw (ok_rwX Vw T d8 qg2 p_tw d_rfF);have d_cwX:=f X G UY Vx (ok_cwX Vx T d8 qg2 p_tw d_cfF);have d_pld:=f X G Vl Vv (ok_pldT Vv T Y m_playB p_goB);have d_wfs:=f X G Ul Vy (ok_wfs Vy T d7 m_has);have d_rdp:=f X G U7 Vz (ok_rdX Vz T d_wfs m_playB d_gaF);have d_ns:=f X G U8 VG (ok_ns VG T);have d_nm:=f X G vR VH (ok_nm VH T d_ns);have d_ts:=f X G Vn VI (ok_ts2 VI T d_ns);have d_td:=f X G Vo VJ (ok_tdB VJ);have d_mv:=f X G vS VL (ok_mvL VL d_td);have d_st:=f X G vW VQ (ok_st VQ T p_gone p_left p_mv p_hand p_end p_los p_pos);have d_tg:=f X G vV VO (ok_tg (tb:=tb) VO T);have d_dr:=f X G Vq VP (ok_dr VP T af (chd_of kb ad) (bm_of kb (xm X G ac) ab) m_play m_playB p_goB d_pld d_rwX d_cwX d_rdp p_bkX) (hb:=λ_ _ _ _ _ _=>lN6 λ_ _ _ _ _ _=>rfl);have d_ki:=f X G vT VM (ok_ki VM T);have d_he:=f X G Vp VN (ok_he VN T);show ok_law15 VR T (f X G Vm VF (ok_cl VF T)) d_nm d_ts q_web m_play d_ns d_mv p_go m_told d_st d_tg d_dr d_ki d_he
theorem walk{l:PySem.W.OpenLaw}{q:Program}{loose:LN}{XP:(Str->Option Value)->Heap->Prop}{YP:World->Heap->Prop}{d:DefRec}{K:Params->yf}(m:l.most=some 63)(b:d.params.defaults=[])
  (j:∀(w:World) (h:Heap),YP w h->(K w.params).In h/\h.TableAt 655 651 #[]) (e:∀ w:World,(K w.params).lookup 651=none)
  (F:∀(w:World) (mg:Str->Option Value) (g:Addr) (h:Heap),(K w.params).In h->h.Ns mainGlobals mg->mg d.name=some (.ref g) ->
   ∃ fd:FuncData,(∀(s:Shared) (u:Value),BindsTo s fd ⟨[u],[]⟩ [("_law_script",u)])/\∀ base:Heap,(K w.params).In base->base.Ns mainGlobals mg->FnOk l.prog w (K w.params) mg base CX0 18 g fd wqS (qd7 (K w.params) 651)) :
  PySem.W.WalkO q loose XP YP l.row.toRowW d [] (λf vs=>PySem.call f vs):=
 L2.walk_ofT (c:=655) (p:=651) (ps:=#[]) (n:=63) (k:=18) (x:="_law_script") (CX:=λ_=>CX0) (sp:=λw=>qd7 (K w.params) 651) m (by decide) b ⟨rfl,by decide,by decide,rfl⟩ j e F (λ_ _ a ns hl o i=>⟨a,ns,rfl,i,hl,⟨#[],o,trivial,λ_=>.inl rfl⟩,λ_=>rfl⟩) λ_ _ _ _ _ z=>z
end K15
set_option maxRecDepth 100000 in
set_option maxHeartbeats 0 in
theorem PySem.Challenge.cw_onceroad_k15_refused_in_plays_holds : PySem.Challenge.rw_onceroad_k15_refused_in_plays.Holds := by
  w_on; o_law
  show PySem.W.holds_open (q := K15.Q) (loose := []) (Xt := K15.Xt) (XP := PySem.W.XL K15.Q []) (Yf := PySem.W.Hook.obs K15.Hk) (Ya := PySem.W.Hook.val K15.Hk) (YP := PySem.W.Hook.says (L2.hookT K15.Kf K15.ks K15.ks_eq 651 (PySem.W.tabObj #[]))) (N := K15.NN) K15.hl (PySem.W.Hook.of K15.Hk) (PySem.W.Hook.keeps K15.Hk) (λs e => PySem.W.xl_of s (Bool.and_eq_true_iff.mp e).1) PySem.W.XL.keeps (by rfl) (by rfl) (by rfl) (λs e => PySem.W.recFacts_of (Bool.and_eq_true_iff.mp e).2) (by rfl) (by first | assumption | room) (by room) ⟨rfl, rfl, rfl, rfl, rfl, by room⟩ ?hw ?hc
  (case hw => w_witness2)
  k_fill
  show K15.walk (l := PySem.Challenge.rw_onceroad_k15_refused_in_plays) rfl rfl (λw h Y => ⟨PySem.W.kIn_of Y.1, (L2.chd_of (K := K15.Kf w.params) (PySem.W.kIn_of Y.1) (by kernel_rfl)).tab Y.2⟩) (λw => by kernel_rfl) ?F
  case F =>
    intro w mg fa h KX G hmg
    refine' K15.all_mk KX G hmg ?_ ?_ ?_ ?_ ?_ ?_ ?_ ?_ ?_ ?_ ?_ ?_ ?_ ?_ ?_ ?_ ?_ ?_ ?_ ?_ ?_ ?_ ?_ ?_ ?_ ?_ ?_ ?_ ?_ ?_ ?_ ?_ ?_ ?_ ?_ ?_ ?_ ?_ ?_ ?_ ?_ ?_ ?_ ?_ ?_ ?_ ?_ ?_ ?_ ?_ ?_ ?_ ?_ ?_ ?_ ?_ ?_ ?_ ?_ ?_ ?_ ?_ ?_ ?_ ?_ ?_ ?_ ?_ ?_ ?_ ?_ ?_ ?_ ?_ ?_ ?_ ?_ ?_ ?_ ?_ ?_ ?_ ?_ ?_ ?_ ?_ ?_ ?_ ?_ ?_ ?_ ?_ ?_ ?_ ?_ ?_ ?_ ?_ ?_ ?_ ?_ ?_ ?_ ?_ ?_ ?_ ?_ ?_ ?_ ?_ ?_ ?_ ?_ ?_ ?_ ?_ ?_ ?_ ?_ ?_ ?_ ?_ ?_ ?_ ?_ ?_ ?_ ?_ ?_ ?_ ?_ ?_ ?_ ?_ ?_ ?_ ?_ ?_ ?_ ?_ ?_ ?_ ?_ ?_ ?_ ?_ ?_ ?_ ?_ ?_ ?_ ?_ ?_ ?_ ?_ ?_ ?_ ?_ ?_
    any_goals first | k_is | decide
    any_goals first | k_is | decide | show⟨_, _, by k_is, L2.fun_mk (by k_is) (by k_is) (by k_is), rfl⟩ | show⟨_, _, by k_is, L2.fun_mk (by k_is) (by k_is) (by k_is)⟩ | show⟨_, _, by k_is, by k_is, L2.fun_mk (by k_is) (by k_is) (by k_is)⟩ | show⟨_, _, _, _, _, _, _, _, _, _, _, _, _, _, _, by k_is⟩ | show⟨by k_is, by k_is, by k_is, by k_is, by k_is, by k_is, by k_is, by k_is⟩ | kernel_rfl | fail
