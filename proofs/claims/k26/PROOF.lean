import PyProof.Rows.All
import Wide.All
import OpenK.AllK
import Wide.FinOn
import PyProof.EqAt
import PyProof.EqKinds
import PyProof.TupleCall
import Lean
import PySem.Challenge.RW_onceroad_k26_two_sides_or_an_odd_ring
set_option Elab.async false
set_option linter.all false
set_option maxRecDepth 100000
local macro_rules | `(tactic| show $e)=>`(tactic| refine $e)
abbrev LX:=List Int
abbrev LQ:=List PySem.Addr
abbrev LN:=List Nat
abbrev LS:=List PySem.Str
abbrev LP:=List (PySem.Str×PySem.Str)
local macro_rules | `(tactic| room)=>`(tactic| decide +kernel)
local macro_rules | `(tactic| lk)=>`(tactic| first | lia | omega)
theorem ya{a b:Type}{as:List a}(f:a→b):(as.map f).length=as.length:=List.length_map f
theorem yb{a:Type}{l:List a}{i:Nat}(h:i<l.length):l[i]?=some l[i]:=List.getElem?_eq_getElem h
theorem yc{b:Type}{l:List b}{i:Nat}{a:b}:l[i]?=some a↔∃h:i<l.length,l[i]=a:=List.getElem?_eq_some_iff
theorem yd{a b:Type}{f:a→b}{l:List a}{i:Nat}:(l.map f)[i]?=l[i]?.map f:=List.getElem?_map
theorem ye{b:Type}{l:List b}{i:Nat}{a:b}(h:l[i]?=some a):a∈l:=List.mem_of_getElem? h
theorem yf{b:Type}{a:b}{l:List b}(h:a∈l):∃i:Nat,l[i]?=some a:=List.getElem?_of_mem h
noncomputable abbrev yg:=PySem.W.Frag
theorem yh(n:Nat):n≤n:=Nat.le_refl n
theorem yi{a b c:Nat}(h:a≤b)(k:b≤c):a≤c:=Nat.le_trans h k
theorem yj{a b c:Nat}(h:a<b)(k:b≤c):a<c:=Nat.lt_of_lt_of_le h k
theorem yk{p:Prop}[Decidable p](h:decide p=true):p:=of_decide_eq_true h
theorem yl{p:Prop}[Decidable p](h:¬p):decide p=false:=decide_eq_false h
theorem ym{c:Type}{a b:c}(h:some a=some b):a=b:=Option.some.inj h
theorem yn{c d:Type}{f:c→d}{x:Option c}{b:d}:x.map f=some b↔∃a,x=some a∧f a=b:=Option.map_eq_some_iff
theorem yo{b:Type}{a:b}{l:List b}:(a::l).Nodup↔a∉l∧l.Nodup:=List.nodup_cons
theorem yp{a:Type}{p:a→Bool}{as:List a}{x:a}:x∈as.filter p↔x∈as∧p x=true:=List.mem_filter
theorem yq{A B:Prop}(h:B):if false=true then A else B:=h
def yr:=@PySem.wpAny_bind
def yt:=@List.length_append
def yu:=@PySem.Heap.get?_push_of_some
def yv:=@List.mem_singleton
def yw:=@PySem.wpAny_pure
def yx:=@List.mem_append
def yy:=@List.length_cons
def yz:=@List.mem_cons
def yA:=@List.size_toArray
def yB:=@List.getElem?_append_right
def yC:=@List.map_append
def yD:=@decide_eq_true
def yE:=@if_neg
def yF:=@List.getElem?_append_left
def yG:=@if_pos
def yH:=@List.take_add_one
def yI:=@PySem.Heap.lt_size
def yJ:=@Nat.ne_of_lt
def yK:=@List.length_take
def yL:=@List.filter_cons
def yM:=@List.not_mem_nil
def yN:=@List.mem_cons_of_mem
def yO:=@List.take_length
def yP:=@Or.inl
def yQ:=@List.length_filter_le
def yR:=@List.mem_append_right
def yS:=@List.mem_append_left
def yT:=@Nat.le_of_lt
def yU:=@PySem.Heap.get?_push_size
def yV:=@PySem.F.plainAttrs_list
def yW:=@List.append_assoc
def yX:=@List.nodup_append
def yY:=@List.mem_cons_self
def yZ:=@PySem.PassesOwn.never
def Yb:=@List.append_nil
def Yc:=@List.filter_append
def Yd:=@Ne.symm
def Ye:=@beq_iff_eq
def Yg:=@Nat.ne_of_gt
def Yh:=@Bool.and_eq_true
def Yi:=@PySem.F.slot_list_append
def Yj:=@PySem.F.type_list_append
def Yk:=@List.getD_eq_getElem?_getD
def Yl:=@List.length_reverse
def Ym:=@List.length_nil
def Yn:=@PySem.wpAny_holding
def Yo:=@Bool.false_ne_true
def Yp:=@List.length_drop
def Yq:=@decide_eq_true_iff
def Yr:=@List.append_of_mem
def Ys:=@List.all_eq_true
def Yt:=@or_false
def Yu:=@Nat.lt_irrefl
def Yv:=@List.contains_cons
def Yw:=@List.filter_nil
def Yx:=@Nat.lt_of_le_of_lt
def Yy:=@PySem.Heap.get?_update_self
def Yz:=@beq_eq_false_iff_ne
def YA:=@PySem.sizeLine_eq
def YB:=@Int.toNat_natCast
def YC:=@PySem.Heap.get?_update_other
def YD:=@List.take_of_length_le
def YE:=@PySem.wpAny_mono
def YF:=@List.map_cons
def YH:=@List.mem_map
def YI:=@PySem.Heap.size_push
def YJ:=@PySem.wpAny_loadPart_at
def YK:=@PySem.W.mg_none_of
def YL:=@Option.isSome_iff_exists
def YM:=@List.idxOf_lt_length_of_mem
def YN:=@PySem.W.looks_findIn
def YO:=@True.intro
def YQ:=@Bool.eq_iff_iff
def YR:=@PyProof.Rows.boot_isinstance
def YS:=@PySem.boot_len
def YT:=@Classical.byContradiction
def YU:=@List.getLast?_eq_getElem?
def YV:=@Array.length_toList
def YW:=@Nat.zero_le
def YX:=@List.length_replicate
def YY:=@PySem.F.slot_NoneType_eq
def YZ:=@decide_eq_decide
def Y7:=@PyProof.Rows.callWith_type1
def Y8:=@PySem.F.excBase_ValueError
def Y9:=@Array.getElem?_eq_some_iff
def xi:=@List.length_pos_iff
def xj:=@Sum.inr.inj
def xk:=@PySem.wpAny_field
def xl:=@PySem.wpAny_of_eq
def xm:=@List.pairwise_iff_getElem
def xn:=@Array.getElem?_eq_getElem
def xo:=@List.getElem_idxOf
def xp:=@List.getElem?_drop
def xq:=@List.Pairwise.imp_of_mem
def xr:=@List.getElem?_set_ne
def xt:=@PySem.codeAny_call_builtin
def xu:=@PySem.wpAny_truthy_bool
def xv:=@List.dropLast_concat_getLast
def xx:=@List.replicate_succ
def xy:=@PySem.W.looks_mroIn
def xz:=@PySem.wpAny_isSubtype_exc
def xA:=@PySem.Heap.SameBut.update
def xB:=@PyProof.Rows.F.plain_set_update_loop
def xC:=@Nat.le_succ
def xD:=@List.cons.inj
def xE:=@beq_self_eq_true
def xF:=@PySem.wpAny_Call_Name_kw
def xG:=@PySem.W.callWith_K
def xH:=@List.lookup_append
def xI:=@Bool.false_eq_true
def xJ:=@List.getElem?_take
def xK:=@Int.emod_lt_of_pos
def xL:=@Array.getElem?_toList
def xM:=@List.getElem?_reverse
def xN:=@PySem.wpAny_passesOwn
def xO:=@List.find?_cons
def xP:=@PySem.wpAny_newObj_type
def xQ:=@PySem.wpAny_call
def xR:=@List.length_erase_of_mem
def xS:=@PyProof.Rows.slot_tuple_getitem
def xT:=@List.filterMap_cons
def xU:=@PySem.mem_of_lookup
def xV:=@List.mem_range
def xW:=@PySem.W.any_some
def xX:=@List.lookup_cons
def xY:=@List.any_eq_true
def xZ:=@PySem.wpAny_getItem_str_slice
def Xa:=@PySem.F.slot_list_index
def Xb:=@Nat.le_add_right
def Xc:=@List.mem_flatMap
def Xd:=@List.length_tail
def Xe:=@List.getElem?_set_self
def Xf:=@PySem.codeAny_mono
def Xg:=@PySem.tupleKind_room_in1
def Xh:=@Array.getElem?_eq_none
def Xi:=@Nat.zero_add
def Xj:=@List.length_pos_of_mem
def Xk:=@List.getElem?_tail
def Xl:=@Int.emod_nonneg
def Xm:=@List.any_cons
def Xn:=@PySem.W.methodCall_KW
def Xo:=@List.mem_iff_getElem?
def Xp:=@if_true
def Xq:=@List.flatten_cons
def Xr:=@Option.isSome_map
def Xs:=@PySem.wpAny_pyIter_list
def Xu:=@Or.inr
def Xv:=@PySem.Around.under_plainId
def Xw:=@List.mem_of_mem_drop
def Xx:=@Nat.lt_succ_self
def Xy:=@List.getElem_mem
def Xz:=@PyProof.Rows.boot_list
def XA:=@List.mem_reverse
def XB:=@PySem.F.plain_extend_loop
def XC:=@List.flatMap_append
def XD:=@PySem.wpAny_standAt
def XE:=@Prod.mk.injEq
def XF:=@PySem.codeAny_builtin
def XG:=@List.all_append
def XH:=@List.getElem?_replicate
def XI:=@PySem.wpAny_callSpecial?_slot
def XJ:=@List.pairwise_singleton
def XM:=@PySem.F.type_list_index
def XR:=@List.take_sublist
def XS:=@if_false
def XT:=@PySem.Calls.callWith_builtin
def XU:=@List.drop_of_length_le
def XV:=@PySem.wpAny_nextOf_list_item
def XW:=@Nat.lt_trichotomy
def XY:=@Nat.sub_self
def XZ:=@PySem.F.slot_dict_get
def X2:=@PySem.wpAny_call_entry
def X3:=@Nat.min_eq_right
def X4:=@PySem.wpAny_attempt
def X5:=@PySem.Value.ref.inj
def X6:=@Prod.ext
def X7:=@PySem.Calls.evalArgs_plain
def X8:=@List.getLast?_append
def X9:=@PySem.wpAny_execs_nil
def kc:=@List.length_set
def ke:=@PySem.SeqAt.EqAt.same
def kf:=@Option.map_some
def kg:=@PySem.post_val_or_str
def kh:=@Nat.min_eq_left
def ki:=@PySem.F.slot_zip_next
def kj:=@PySem.wpAny_updateSeq
def kl:=@Nat.le_antisymm
def km:=@PySem.W.plainGet_of
def kn:=@PySem.W.looks_clsIn
def ko:=@Bool.or_true
def kq:=@PySem.Calls.spliced_cons
def kt:=@PySem.call_meets
def ku:=@PySem.Code.quiet_builtin
def kx:=@List.nodup_nil
def ky:=@PySem.Calls.spliced_nil
def kz:=@PySem.slot_list_getitem
def kA:=@PySem.Heap.get?_push_at
def kB:=@Nat.le_succ_of_le
def kC:=@List.reverse_perm
def kD:=@List.pairwise_map
def kE:=@decide_eq_true_eq
def kF:=@Bool.or_false
def kG:=@List.all_cons
def kH:=@PySem.W.mg_of
def kI:=@List.map_tail
def kJ:=@Nat.min_le_right
def kK:=@Nat.succ_le_succ
def kL:=@List.cons_append
def kM:=@PySem.wpAny_askSetting
def kN:=@PySem.wpAny_pyIter_zip
def kO:=@Nat.lt_of_not_le
def kP:=@List.cons_ne_nil
def kQ:=@List.map_reverse
def kR:=@Nat.lt_trans
def kS:=@List.all_map
def kT:=@PySem.Txt.slice_le
def kU:=@PySem.wpAny_rule
def kW:=@PySem.W.mg_of
def kX:=@List.of_mem_zip
def kY:=@List.forIn_cons
def kZ:=@PySem.codeAny_of_tree
def k7:=@List.range_succ
def k8:=@List.forIn_nil
def k9:=@List.map_drop
def Ka:=@not_or
def Kb:=@Nat.le_of_eq
def Kc:=@Int.ediv_one
def Kd:=@decide_false
def Ke:=@Nat.sub_zero
def Kg:=@List.any_map
namespace L2
open PySem PySem.Spec PyProof.Rows
noncomputable def qV(s:Stmt)(j:Nat):Stmt:=match s with
 | .ClassDef _ _ _ body _ _ _ _ _ _ _=>body.getD j (.Pass ⟨0,0,0,0⟩)
 | _=>.Pass ⟨0,0,0,0⟩
noncomputable def qam(s:Stmt):Arguments:=match s with
 | .FunctionDef _ a _ _ _ _ _ _ _ _=>a
 | _=>{ posonlyargs:=[],args:=[],vararg:=none,kwonlyargs:=[],kw_defaults:=[],kwarg:=none,defaults:=[] }
noncomputable def zD(s:Stmt):List Stmt:=match s with
 | .FunctionDef _ _ b _ _ _ _ _ _ _=>b
 | _=>[]
noncomputable def qh(s:Stmt):Scope:=match s with
 | .FunctionDef _ _ _ _ _ _ sc _ _ _=>sc
 | _=>{ kind:=.function,names:=[],isGenerator:=false,isCoroutine:=false }
end L2
namespace K26
open PySem L2 PyProof.Rows
noncomputable def top(i:Nat):Stmt:=PySem.Challenge.pw_onceroad_k26_two_sides_or_an_odd_ring.main.body.getD i (.Pass ⟨0,0,0,0⟩)
noncomputable abbrev jD:Stmt:=qV (top 2) 0
noncomputable abbrev zZ:Stmt:=qV (top 10) 0
noncomputable abbrev zP:Stmt:=top 40
noncomputable abbrev qaD:Stmt:=top 45
noncomputable abbrev qaa:Stmt:=top 46
noncomputable abbrev jE:Stmt:=top 47
noncomputable abbrev zn:Stmt:=top 48
noncomputable abbrev qab:Stmt:=qV (top 44) 0
noncomputable abbrev qaF:Stmt:=top 49
noncomputable abbrev zo:Stmt:=qV (top 44) 1
noncomputable abbrev jL:Stmt:=qV (top 44) 4
noncomputable abbrev jM:Stmt:=qV (top 44) 6
noncomputable abbrev zq:Stmt:=qV (top 44) 7
noncomputable abbrev ju:Stmt:=qV (top 44) 8
noncomputable abbrev qac:Stmt:=qV (top 44) 9
noncomputable abbrev jA:Stmt:=qV (top 44) 12
noncomputable abbrev qae:Stmt:=qV (top 44) 2
noncomputable abbrev zI:Stmt:=top 12
noncomputable abbrev j7:Stmt:=qV (top 44) 5
noncomputable abbrev j8:Stmt:=top 13
noncomputable abbrev jY:Stmt:=qV (top 16) 6
noncomputable abbrev qP:Stmt:=qV (top 16) 9
noncomputable abbrev jc:Stmt:=qV (top 16) 10
noncomputable abbrev jN:Stmt:=qV (top 16) 11
noncomputable abbrev qH:Stmt:=qV (top 16) 8
noncomputable abbrev jd:Stmt:=qV (top 16) 7
noncomputable abbrev j9:Stmt:=qV (top 16) 5
noncomputable abbrev za:Stmt:=qV (top 16) 0
noncomputable abbrev zr:Stmt:=qV (top 16) 1
noncomputable abbrev jl:Stmt:=qV (top 16) 2
noncomputable abbrev j0:Stmt:=top 14
noncomputable abbrev jj:Stmt:=top 19
noncomputable abbrev qa1:Stmt:=top 18
noncomputable abbrev qT:Stmt:=top 20
noncomputable abbrev qaf:Stmt:=top 21
noncomputable abbrev qaI:Stmt:=top 22
noncomputable abbrev jO:Stmt:=top 25
noncomputable abbrev qag:Stmt:=top 24
noncomputable abbrev qc9:Stmt:=top 51
noncomputable abbrev qbU:Stmt:=top 52
noncomputable abbrev qa3:Stmt:=top 53
noncomputable abbrev zh:Stmt:=top 54
noncomputable abbrev jP:Stmt:=top 32
noncomputable abbrev zc:Stmt:=top 34
noncomputable abbrev qaJ:Stmt:=top 33
noncomputable abbrev zS:Stmt:=top 35
noncomputable abbrev zg:Stmt:=top 31
noncomputable abbrev qbW:Stmt:=top 27
noncomputable abbrev zy:Stmt:=top 28
noncomputable abbrev qbX:Stmt:=top 29
noncomputable abbrev qU:Stmt:=top 36
noncomputable abbrev qah:Stmt:=top 37
noncomputable abbrev zK:Stmt:=top 57
noncomputable abbrev qaK:Stmt:=top 59
noncomputable abbrev qaL:Stmt:=top 60
noncomputable abbrev jQ:Stmt:=top 58
noncomputable abbrev jv:Stmt:=top 56
noncomputable abbrev zT:Stmt:=top 55
noncomputable abbrev qbY:Stmt:=top 61
end K26
namespace Hd
open PySem PySem.W PySem.Calls PyProof.Rows
variable{p:Program}{α:Type}
noncomputable def qeX(c:String->Option Builtin)(p:Program)(w:World)(a:Nat)(b:Option Value):Nat->SharedT->Thread->Option SharedT
 | 0,_,_=>none
 | n+1,s,t=>match through t with
  | true=>some s
  | false=>match stepOk a b t with
   | false=>none
   | true=>match stepT (denote c) p w s t with
    | some (s',t')=>qeX c p w a b n s' t'
    | none=>none
theorem qeD{d:String->Option Builtin}{w:World}{a:Nat}{b:Option Value}:∀{n:Nat} {s s':SharedT} {t:Thread},qeX d p w a b n s t=some s'->topRun d p w a b n s.abs t=some s'.abs
 | 0,_,_,_,h=>by cases h
 | n+1,s,s',t,h=>by
  unfold qeX at h;unfold topRun
  cases e:through t with
  | true=>rw[e] at h;cases h;rfl
  | false =>
   rw[e] at h
   cases f:stepOk a b t with
   | false=>rw[f] at h;cases h
   | true =>
    rw[f] at h
    cases c:stepT (denote d) p w s t with
    | none=>rw[c] at h;cases h
    | some r=>obtain⟨g,i⟩:=r;rw[c] at h;rw[stepT_spec c];show qeD h
noncomputable def qcN:List Obj->Nat->BT->BT
 | [],_,t=>t
 | o::r,n,t=>qcN r (n+1) (t.ins n o)
noncomputable def qd2(P:Params)(a:OsState):SharedT:=⟨qcN (boot_heap P).objs.toList 0 .nil,(boot_heap P).objs.size,(boot_heap P).life,Array.mk [],boot_drawn,boot_toks,a⟩
theorem boot_abs(P:Params):absHeap (qcN (boot_heap P).objs.toList 0 .nil) (boot_heap P).objs.size (boot_heap P).life=boot_heap P:=by kernel_rfl
noncomputable def qee(p q:Program)(Xt:Shared->Bool){α:Type}(Yf:Shared->α)(N:Nat)(w:World)(a:OsState):=match (boot_heap w.params).isNs mainGlobals&&(Array.mk []:Array GenState).size==0 with
 | true=>(qeX treeTable p w (boot_heap w.params).objs.size ((boot_heap w.params).nsMap mainGlobals "__annotations__") N (qd2 w.params a) (topStub p)).bind fun s=>match staticsOk (importedModules p.main.body) (boot_heap w.params) s.abs.heap&&namesBound p s.abs.heap&&gensDone s.abs&&laidKept (boot_heap w.params) s.abs.heap with
   | true=>some (openSeen q [] (importedModules p.main.body) Xt true s.abs,Yf s.abs)
   | false=>none
 | false=>none
noncomputable def lookS(p:Program)(N:Nat)(w:World)(a:OsState):Option Shared:=match (boot_heap w.params).isNs mainGlobals&&(Array.mk []:Array GenState).size==0 with
 | true=>(qeX treeTable p w (boot_heap w.params).objs.size ((boot_heap w.params).nsMap mainGlobals "__annotations__") N (qd2 w.params a) (topStub p)).bind fun s=>match staticsOk (importedModules p.main.body) (boot_heap w.params) s.abs.heap&&namesBound p s.abs.heap&&gensDone s.abs&&laidKept (boot_heap w.params) s.abs.heap with
   | true=>some s.abs
   | false=>none
 | false=>none
theorem lookT_map(p q:Program)(Xt:Shared->Bool)(Yf:Shared->α)(N:Nat)(w:World)(a:OsState):qee p q Xt Yf N w a=(lookS p N w a).map fun s=>(openSeen q [] (importedModules p.main.body) Xt true s,Yf s):=by
 unfold qee lookS
 cases (boot_heap w.params).isNs mainGlobals&&(Array.mk []:Array GenState).size==0 with
 | false=>rfl
 | true =>
  dsimp only
  cases qeX treeTable p w (boot_heap w.params).objs.size ((boot_heap w.params).nsMap mainGlobals "__annotations__") N (qd2 w.params a) (topStub p) with
  | none=>rfl
  | some s =>
   show(match _ with | true=>_ | false=>_)=Option.map _ (match _ with | true=>_ | false=>_);cases staticsOk (importedModules p.main.body) (boot_heap w.params) s.abs.heap&&namesBound p s.abs.heap&&gensDone s.abs&&laidKept (boot_heap w.params) s.abs.heap<;>rfl
theorem packs{b A B C D E Y:Type}{o:Option b}{f:b->A×B×C×D×E}{g:b->Y}{x:A×B×C×D×E}{y:Y}(h1:o.map (fun s=>((f s).1,(f s).2.1,(f s).2.2.1,(f s).2.2.2.1))=some (x.1,x.2.1,x.2.2.1,x.2.2.2.1))(h:o.map (fun s=>(f s).2.2.2.2)=some x.2.2.2.2)(c:o.map g=some y):o.map (fun s=>(f s,g s))=some (x,y):=by
 cases o with
 | none=>cases c
 | some s =>
  have a:=ym h1;have d:=ym h;have e:=ym c;have i:=congrArg Prod.fst a;have j:=congrArg (fun z=>z.2.1) a;have l:=congrArg (fun z=>z.2.2.1) a;have m:=congrArg (fun z=>z.2.2.2) a;show congrArg some (X6 (X6 i (X6 j (X6 l (X6 m d)))) e)
theorem left_of{q:Program}{Xt:Shared->Bool}{Yf:Shared->α}{Ya:World->α}{N:Nat}(e:opening p=plainProg p.main.scope.names)(n:Nat.ble 600 N=true)(f:∀ s,fenceModules? p s=some s)
  (h:∀ w a,qee p q Xt Yf N w a=some (openGood q [],Ya w)):LeftO p q [] Xt Yf Ya N:=fun w=>by
 obtain⟨⟨m,l,d,k,a⟩,i,j⟩:=yn.mp (boot_open e n f w);obtain⟨rfl,rfl,rfl,rfl⟩:m=boot_heap w.params/\l=Array.mk []/\d=boot_drawn/\k=boot_toks:=by simpa using j
 have b:=h w a;unfold qee at b;unfold openEnds;rw[i];show(topFrom treeTable p w N _).map _=_;unfold topFrom;dsimp only;split at b
 .rename_i z
  rw[z];obtain⟨s,o,c⟩:=Option.bind_eq_some_iff.mp b;have r:=qeD o
  have g:(qd2 w.params a).abs=⟨boot_heap w.params,Array.mk [],boot_drawn,boot_toks,a⟩:=by
   unfold qd2 SharedT.abs;dsimp only;rw[boot_abs]
  rw[g] at r;dsimp only;rw[r];split at c
  .rename_i z2
   show((match staticsOk (importedModules p.main.body) (boot_heap w.params) s.abs.heap&&namesBound p s.abs.heap&&gensDone s.abs&&laidKept (boot_heap w.params) s.abs.heap with | true=>some s.abs | false=>none):Option Shared).map _=_;rw[z2];show c
  .cases c
 .cases b
end Hd
namespace K26
open PySem L2 PyProof.Rows PySem.W
noncomputable abbrev NN:Nat:=20000
noncomputable def Q:Program:=view PySem.Challenge.pw_onceroad_k26_two_sides_or_an_odd_ring [0,2,3,4,5,6,7,8,9,10,12,13,14,16,18,19,20,21,22,24,25,27,28,29,31,32,33,34,35,36,37,39,40,42,43,44,45,46,47,48,49,51,52,53,54,55,56,57,58,59,60,61]
noncomputable def en(P:Params)(t:Tok)(v:Value)(k:Str):DictEntry:=⟨PyData.keyHash P k,.str k t,v⟩
noncomputable def cO(t a b r:Nat)(x y z v:Value)(e u:Nat)(q n:Str):Obj:=⟨.type "code",none,.fields #[.str n t,.str q (t+1),.str "/claim/cut.py" (t+2),.int a 0,.int b 0,.int 0 0,.int 0 0,.int 3 0,.ref r,.bool true,.int 181 0,x,y,z,v,.ref e,.int u 0,.int a 0,.str "/claim/cut.py" (u+1)],#[]⟩
noncomputable def cE(t b a r:Nat)(x y z v:Value)(e u:Nat)(n:Str):Obj:=cO t b a r x y z v e u n n
noncomputable def fO(k c:Nat)(s:Stmt)(m q n:Str):Obj:=⟨.type "function",none,.func (fnOf n q (qam s) (zD s) (qh s) .none .none .none (.str m k) none (.ref c) .none),#[]⟩
noncomputable def fE(k c:Nat)(s:Stmt)(m n:Str):Obj:=fO k c s m n n
noncomputable def Kf(P:Params):Frag:=
 (nat_lit 2,(⟨.none,none,.dict #[] 0,#[]⟩:Obj)) ::
 (nat_lit 3,(⟨(.type "dict"),none,.dict #[en P 165 (.str "law_onceroad_k26_two_sides_or_an_odd_ring" 949) "__name__",en P 166 .none "__doc__",en P 167 .none "__package__",en P 168 (.builtin "__main__.__loader__#opaque") "__loader__",en P 169 .none "__spec__",en P 170 (.ref 6) "__annotations__",en P 171 (.ref 4) "__builtins__",en P 173 (.str "/claim/cut.py" 172) "__file__",en P 174 .none "__cached__",en P 193 (.ref 21) "_wall",en P 221 (.ref 38) "OnceError",en P 246 (.ref 58) "NoName",en P 271 (.ref 77) "Twice",en P 296 (.ref 96) "NoPlace",en P 321 (.ref 115) "NoTie",en P 346 (.ref 134) "TooMany",en P 371 (.ref 153) "NoPairs",en P 396 (.ref 172) "NoRow",en P 421 (.ref 191) "Odd",en P 433 (.ref 200) "are_pairs",en P 443 (.ref 207) "partners_in",en P 449 (.ref 212) "told_pairs",en P 579 (.ref 300) "Forest",en P 591 (.ref 311) "is_row",en P 601 (.ref 318) "are_unlike_places",en P 607 (.ref 323) "goes_by_turns",en P 619 (.ref 330) "can_turn",en P 625 (.ref 335) "turned",en P 634 (.ref 342) "greatest",en P 645 (.ref 349) "greatest_from",en P 657 (.ref 356) "sorts",en P 663 (.ref 361) "word_for",en P 670 (.ref 368) "loose",en P 678 (.ref 373) "sides_of",en P 685 (.ref 380) "on_first_side",en P 694 (.ref 387) "ways_in",en P 706 (.ref 394) "spread_from",en P 712 (.ref 399) "ring_of",en P 718 (.ref 404) "greatest_by_sides",en P 726 (.ref 411) "in_cover",en P 730 (.int 6 729) "LONGEST_NAME",en P 736 (.ref 416) "is_name",en P 740 (.int 14 739) "MOST_PLACES",en P 742 (.int 30 741) "MOST_TIES",en P 902 (.ref 543) "Web",en P 910 (.ref 554) "has_bit",en P 918 (.ref 561) "is_place",en P 927 (.ref 568) "are_two_places",en P 936 (.ref 575) "numbers_of",en P 948 (.ref 582) "near_of",en P 958 (.ref 589) "_law_at",en P 965 (.ref 596) "_law_box",en P 976 (.ref 603) "_law_take",en P 982 (.ref 608) "_law_names",en P 988 (.ref 613) "_law_sided",en P 994 (.ref 618) "_law_more_ties",en P 1007 (.ref 625) "_law_colours",en P 1017 (.ref 632) "_law_is_odd_ring",en P 1027 (.ref 639) "_law_asked",en P 1034 (.ref 646) "_law_spoil",en P 1040 (.ref 651) "law"] 61,#[]⟩:Obj)) ::
 (nat_lit 34,cO 208 7 2 29 (.ref 30) .none (.ref 31) (.ref 32) 33 213 "OnceError.__init__" "__init__") ::
 (nat_lit 35,fO 194 34 jD "onceroad.errors" "OnceError.__init__" "__init__") ::
 (nat_lit 37,(⟨(.type "dict"),none,.dict #[en P 203 (.str "onceroad.errors" 194) "__module__",en P 207 (.int 5 206) "__firstlineno__",en P 215 (.ref 35) "__init__",en P 216 (.ref 36) "__static_attributes__",en P 218 (.ref 39) "__weakref__",en P 219 .none "__doc__"] 3,#[]⟩:Obj)) ::
 (nat_lit 38,(⟨(.type "type"),none,.cls { name:="OnceError",bases:=[(.type "ValueError")],mro:=[(.ref 38),(.type "ValueError"),(.type "Exception"),(.type "BaseException"),(.type "object")],ns:=37,qualname:="OnceError",hasDict:=true,slotNames:=[],subclasses:=[(.ref 58),(.ref 77),(.ref 96),(.ref 115),(.ref 134),(.ref 153),(.ref 172),(.ref 191)],abstract:=false,collection:=none,hasDel:=false },#[(some (.ref 22)),none,(some (.str "OnceError" 196)),(some (.str "OnceError" 204)),(some (.builtin "ValueError.__new__")),(some (.bool true))]⟩:Obj)) ::
 (nat_lit 187,cO 409 46 2 182 (.ref 183) .none (.ref 184) (.ref 185) 186 414 "Odd.__init__" "__init__") ::
 (nat_lit 188,fO 194 187 zZ "onceroad.errors" "Odd.__init__" "__init__") ::
 (nat_lit 190,(⟨(.type "dict"),none,.dict #[en P 404 (.str "onceroad.errors" 194) "__module__",en P 408 (.int 44 407) "__firstlineno__",en P 416 (.ref 188) "__init__",en P 418 (.ref 189) "__static_attributes__",en P 419 .none "__doc__"] 2,#[]⟩:Obj)) ::
 (nat_lit 191,(⟨(.type "type"),none,.cls { name:="Odd",bases:=[(.ref 38)],mro:=[(.ref 191),(.ref 38),(.type "ValueError"),(.type "Exception"),(.type "BaseException"),(.type "object")],ns:=190,qualname:="Odd",hasDict:=true,slotNames:=[],subclasses:=[],abstract:=false,collection:=none,hasDel:=false },#[(some (.ref 175)),none,(some (.str "Odd" 397)),(some (.str "Odd" 405)),(some (.builtin "ValueError.__new__")),(some (.bool true))]⟩:Obj)) ::
 (nat_lit 199,cE 424 50 2 194 (.ref 195) .none (.ref 196) (.ref 197) 198 431 "are_pairs") ::
 (nat_lit 200,fE 422 199 zI "onceroad.pairs" "are_pairs") ::
 (nat_lit 206,cE 434 60 2 201 (.ref 202) .none (.ref 203) (.ref 204) 205 441 "partners_in") ::
 (nat_lit 207,fE 422 206 j8 "onceroad.pairs" "partners_in") ::
 (nat_lit 211,cE 444 68 2 208 (.ref 209) .none .none .none 210 447 "told_pairs") ::
 (nat_lit 212,fE 422 211 j0 "onceroad.pairs" "told_pairs") ::
 (nat_lit 225,cO 464 74 3 220 (.ref 221) .none (.ref 222) (.ref 223) 224 470 "Forest.__init__" "__init__") ::
 (nat_lit 226,fO 450 225 za "onceroad.forests" "Forest.__init__" "__init__") ::
 (nat_lit 232,cO 473 85 1 227 (.ref 228) .none (.ref 229) (.ref 230) 231 477 "Forest.row" "row") ::
 (nat_lit 233,fO 450 232 zr "onceroad.forests" "Forest.row" "row") ::
 (nat_lit 237,cO 480 88 1 234 (.ref 235) .none .none .none 236 483 "Forest.reached" "reached") ::
 (nat_lit 238,fO 450 237 jl "onceroad.forests" "Forest.reached" "reached") ::
 (nat_lit 258,cO 501 99 1 253 (.ref 254) .none (.ref 255) (.ref 256) 257 506 "Forest.grow" "grow") ::
 (nat_lit 259,fO 450 258 j9 "onceroad.forests" "Forest.grow" "grow") ::
 (nat_lit 265,cO 509 107 3 260 (.ref 261) .none (.ref 262) (.ref 263) 264 515 "Forest.reach" "reach") ::
 (nat_lit 266,fO 450 265 jY "onceroad.forests" "Forest.reach" "reach") ::
 (nat_lit 272,cO 518 111 2 267 (.ref 268) .none (.ref 269) (.ref 270) 271 525 "Forest.look_around" "look_around") ::
 (nat_lit 273,fO 450 272 jd "onceroad.forests" "Forest.look_around" "look_around") ::
 (nat_lit 277,cO 528 122 3 274 (.ref 275) .none .none .none 276 531 "Forest.bring_together" "bring_together") ::
 (nat_lit 278,fO 450 277 qH "onceroad.forests" "Forest.bring_together" "bring_together") ::
 (nat_lit 284,cO 534 133 2 279 (.ref 280) .none (.ref 281) (.ref 282) 283 541 "Forest.bases_down_from" "bases_down_from") ::
 (nat_lit 285,fO 450 284 qP "onceroad.forests" "Forest.bases_down_from" "bases_down_from") ::
 (nat_lit 291,cO 544 140 4 286 (.ref 287) .none (.ref 288) (.ref 289) 290 555 "Forest.reach_round" "reach_round") ::
 (nat_lit 292,fO 450 291 jc "onceroad.forests" "Forest.reach_round" "reach_round") ::
 (nat_lit 296,cO 558 149 3 293 (.ref 294) .none .none .none 295 561 "Forest.fold" "fold") ::
 (nat_lit 297,fO 450 296 jN "onceroad.forests" "Forest.fold" "fold") ::
 (nat_lit 299,(⟨(.type "dict"),none,.dict #[en P 459 (.str "onceroad.forests" 450) "__module__",en P 463 (.int 72 462) "__firstlineno__",en P 472 (.ref 226) "__init__",en P 479 (.ref 233) "row",en P 485 (.ref 238) "reached",en P 493 (.ref 245) "row_to",en P 500 (.ref 252) "folds",en P 508 (.ref 259) "grow",en P 517 (.ref 266) "reach",en P 527 (.ref 273) "look_around",en P 533 (.ref 278) "bring_together",en P 543 (.ref 285) "bases_down_from",en P 557 (.ref 292) "reach_round",en P 563 (.ref 297) "fold",en P 572 (.ref 298) "__static_attributes__",en P 574 (.ref 301) "__dict__",en P 576 (.ref 302) "__weakref__",en P 577 .none "__doc__"] 4,#[]⟩:Obj)) ::
 (nat_lit 300,(⟨(.type "type"),none,.cls { name:="Forest",bases:=[(.type "object")],mro:=[(.ref 300),(.type "object")],ns:=299,qualname:="Forest",hasDict:=true,slotNames:=[],subclasses:=[],abstract:=false,collection:=none,hasDel:=false },#[none,none,(some (.str "Forest" 452)),(some (.str "Forest" 460)),(some (.builtin "object.__new__")),(some (.bool true))]⟩:Obj)) ::
 (nat_lit 310,cE 582 155 3 305 (.ref 306) .none (.ref 307) (.ref 308) 309 589 "is_row") ::
 (nat_lit 311,fE 580 310 qa1 "onceroad.rows" "is_row") ::
 (nat_lit 317,cE 592 160 2 312 (.ref 313) .none (.ref 314) (.ref 315) 316 599 "are_unlike_places") ::
 (nat_lit 318,fE 580 317 jj "onceroad.rows" "are_unlike_places") ::
 (nat_lit 322,cE 602 169 3 319 (.ref 320) .none .none .none 321 605 "goes_by_turns") ::
 (nat_lit 323,fE 580 322 qT "onceroad.rows" "goes_by_turns") ::
 (nat_lit 329,cE 608 175 3 324 (.ref 325) .none (.ref 326) (.ref 327) 328 617 "can_turn") ::
 (nat_lit 330,fE 580 329 qaf "onceroad.rows" "can_turn") ::
 (nat_lit 334,cE 620 182 3 331 (.ref 332) .none .none .none 333 623 "turned") ::
 (nat_lit 335,fE 580 334 qaI "onceroad.rows" "turned") ::
 (nat_lit 341,cE 628 189 1 336 (.ref 337) .none (.ref 338) (.ref 339) 340 632 "greatest") ::
 (nat_lit 342,fE 626 341 qag "onceroad.greatest" "greatest") ::
 (nat_lit 348,cE 635 191 2 343 (.ref 344) .none (.ref 345) (.ref 346) 347 643 "greatest_from") ::
 (nat_lit 349,fE 626 348 jO "onceroad.greatest" "greatest_from") ::
 (nat_lit 355,cE 648 201 1 350 (.ref 351) .none (.ref 352) (.ref 353) 354 655 "sorts") ::
 (nat_lit 356,fE 646 355 qbW "onceroad.sorts" "sorts") ::
 (nat_lit 360,cE 658 207 3 357 (.ref 358) .none .none .none 359 661 "word_for") ::
 (nat_lit 361,fE 646 360 zy "onceroad.sorts" "word_for") ::
 (nat_lit 367,cE 664 211 1 362 (.ref 363) .none (.ref 364) (.ref 365) 366 668 "loose") ::
 (nat_lit 368,fE 646 367 qbX "onceroad.sorts" "loose") ::
 (nat_lit 372,cE 673 214 1 369 (.ref 370) .none .none .none 371 676 "sides_of") ::
 (nat_lit 373,fE 671 372 zg "onceroad.sides" "sides_of") ::
 (nat_lit 379,cE 679 222 1 374 (.ref 375) .none (.ref 376) (.ref 377) 378 683 "on_first_side") ::
 (nat_lit 380,fE 671 379 jP "onceroad.sides" "on_first_side") ::
 (nat_lit 386,cE 686 224 1 381 (.ref 382) .none (.ref 383) (.ref 384) 385 692 "ways_in") ::
 (nat_lit 387,fE 671 386 qaJ "onceroad.sides" "ways_in") ::
 (nat_lit 393,cE 695 231 3 388 (.ref 389) .none (.ref 390) (.ref 391) 392 704 "spread_from") ::
 (nat_lit 394,fE 671 393 zc "onceroad.sides" "spread_from") ::
 (nat_lit 398,cE 707 239 2 395 (.ref 396) .none .none .none 397 710 "ring_of") ::
 (nat_lit 399,fE 671 398 zS "onceroad.sides" "ring_of") ::
 (nat_lit 403,cE 713 242 1 400 (.ref 401) .none .none .none 402 716 "greatest_by_sides") ::
 (nat_lit 404,fE 671 403 qU "onceroad.sides" "greatest_by_sides") ::
 (nat_lit 410,cE 719 247 2 405 (.ref 406) .none (.ref 407) (.ref 408) 409 724 "in_cover") ::
 (nat_lit 411,fE 671 410 qah "onceroad.sides" "in_cover") ::
 (nat_lit 415,cE 731 251 1 412 (.ref 413) .none .none .none 414 734 "is_name") ::
 (nat_lit 416,fE 727 415 zP "onceroad.names" "is_name") ::
 (nat_lit 429,cO 755 260 3 424 (.ref 425) .none (.ref 426) (.ref 427) 428 761 "Web.__init__" "__init__") ::
 (nat_lit 430,fO 737 429 qab "onceroad.webs" "Web.__init__" "__init__") ::
 (nat_lit 436,cO 764 265 1 431 (.ref 432) .none (.ref 433) (.ref 434) 435 768 "Web.places" "places") ::
 (nat_lit 437,fO 737 436 zo "onceroad.webs" "Web.places" "places") ::
 (nat_lit 443,cO 771 268 1 438 (.ref 439) .none (.ref 440) (.ref 441) 442 778 "Web.ties" "ties") ::
 (nat_lit 444,fO 737 443 qae "onceroad.webs" "Web.ties" "ties") ::
 (nat_lit 457,cO 788 279 2 452 (.ref 453) .none (.ref 454) (.ref 455) 456 793 "Web.has_place" "has_place") ::
 (nat_lit 458,fO 737 457 jL "onceroad.webs" "Web.has_place" "has_place") ::
 (nat_lit 464,cO 796 282 2 459 (.ref 460) .none (.ref 461) (.ref 462) 463 801 "Web.has_tie" "has_tie") ::
 (nat_lit 465,fO 737 464 j7 "onceroad.webs" "Web.has_tie" "has_tie") ::
 (nat_lit 471,cO 804 285 2 466 (.ref 467) .none (.ref 468) (.ref 469) 470 809 "Web.number_of" "number_of") ::
 (nat_lit 472,fO 737 471 jM "onceroad.webs" "Web.number_of" "number_of") ::
 (nat_lit 478,cO 812 290 2 473 (.ref 474) .none (.ref 475) (.ref 476) 477 817 "Web.beside" "beside") ::
 (nat_lit 479,fO 737 478 zq "onceroad.webs" "Web.beside" "beside") ::
 (nat_lit 485,cO 820 293 2 480 (.ref 481) .none (.ref 482) (.ref 483) 484 825 "Web.bits_beside" "bits_beside") ::
 (nat_lit 486,fO 737 485 ju "onceroad.webs" "Web.bits_beside" "bits_beside") ::
 (nat_lit 492,cO 828 296 3 487 (.ref 488) .none (.ref 489) (.ref 490) 491 835 "Web.tied" "tied") ::
 (nat_lit 493,fO 737 492 qac "onceroad.webs" "Web.tied" "tied") ::
 (nat_lit 511,cO 852 306 2 508 (.ref 509) .none .none .none 510 855 "Web.names_in" "names_in") ::
 (nat_lit 512,fO 737 511 jA "onceroad.webs" "Web.names_in" "names_in") ::
 (nat_lit 542,(⟨(.type "dict"),none,.dict #[en P 750 (.str "onceroad.webs" 737) "__module__",en P 754 (.int 258 753) "__firstlineno__",en P 763 (.ref 430) "__init__",en P 770 (.ref 437) "places",en P 780 (.ref 444) "ties",en P 787 (.ref 451) "how_many",en P 795 (.ref 458) "has_place",en P 803 (.ref 465) "has_tie",en P 811 (.ref 472) "number_of",en P 819 (.ref 479) "beside",en P 827 (.ref 486) "bits_beside",en P 837 (.ref 493) "tied",en P 844 (.ref 500) "pieces",en P 851 (.ref 507) "told",en P 857 (.ref 512) "names_in",en P 865 (.ref 519) "without",en P 873 (.ref 526) "with_place",en P 882 (.ref 533) "with_tie",en P 891 (.ref 540) "without_tie",en P 895 (.ref 541) "__static_attributes__",en P 897 (.ref 544) "__dict__",en P 899 (.ref 545) "__weakref__",en P 900 .none "__doc__"] 4,#[]⟩:Obj)) ::
 (nat_lit 543,(⟨(.type "type"),none,.cls { name:="Web",bases:=[(.type "object")],mro:=[(.ref 543),(.type "object")],ns:=542,qualname:="Web",hasDict:=true,slotNames:=[],subclasses:=[],abstract:=false,collection:=none,hasDel:=false },#[none,none,(some (.str "Web" 743)),(some (.str "Web" 751)),(some (.builtin "object.__new__")),(some (.bool true))]⟩:Obj)) ::
 (nat_lit 553,cE 903 320 2 548 (.ref 549) .none (.ref 550) (.ref 551) 552 908 "has_bit") ::
 (nat_lit 554,fE 737 553 qaD "onceroad.webs" "has_bit") ::
 (nat_lit 560,cE 911 322 2 555 (.ref 556) .none (.ref 557) (.ref 558) 559 916 "is_place") ::
 (nat_lit 561,fE 737 560 qaa "onceroad.webs" "is_place") ::
 (nat_lit 567,cE 919 324 2 562 (.ref 563) .none (.ref 564) (.ref 565) 566 925 "are_two_places") ::
 (nat_lit 568,fE 737 567 jE "onceroad.webs" "are_two_places") ::
 (nat_lit 574,cE 928 329 1 569 (.ref 570) .none (.ref 571) (.ref 572) 573 934 "numbers_of") ::
 (nat_lit 575,fE 737 574 zn "onceroad.webs" "numbers_of") ::
 (nat_lit 581,cE 937 342 2 576 (.ref 577) .none (.ref 578) (.ref 579) 580 946 "near_of") ::
 (nat_lit 582,fE 737 581 qaF "onceroad.webs" "near_of") ::
 (nat_lit 588,cE 951 359 2 583 (.ref 584) .none (.ref 585) (.ref 586) 587 956 "_law_at") ::
 (nat_lit 589,fE 949 588 qc9 "law_onceroad_k26_two_sides_or_an_odd_ring" "_law_at") ::
 (nat_lit 595,cE 959 363 1 590 (.ref 591) .none (.ref 592) (.ref 593) 594 963 "_law_box") ::
 (nat_lit 596,fE 949 595 qbU "law_onceroad_k26_two_sides_or_an_odd_ring" "_law_box") ::
 (nat_lit 602,cE 966 365 2 597 (.ref 598) .none (.ref 599) (.ref 600) 601 974 "_law_take") ::
 (nat_lit 603,fE 949 602 qa3 "law_onceroad_k26_two_sides_or_an_odd_ring" "_law_take") ::
 (nat_lit 607,cE 977 375 2 604 (.ref 605) .none .none .none 606 980 "_law_names") ::
 (nat_lit 608,fE 949 607 zh "law_onceroad_k26_two_sides_or_an_odd_ring" "_law_names") ::
 (nat_lit 612,cE 983 392 2 609 (.ref 610) .none .none .none 611 986 "_law_sided") ::
 (nat_lit 613,fE 949 612 zT "law_onceroad_k26_two_sides_or_an_odd_ring" "_law_sided") ::
 (nat_lit 617,cE 989 402 5 614 (.ref 615) .none .none .none 616 992 "_law_more_ties") ::
 (nat_lit 618,fE 949 617 jv "law_onceroad_k26_two_sides_or_an_odd_ring" "_law_more_ties") ::
 (nat_lit 624,cE 995 412 2 619 (.ref 620) .none (.ref 621) (.ref 622) 623 1005 "_law_colours") ::
 (nat_lit 625,fE 949 624 zK "law_onceroad_k26_two_sides_or_an_odd_ring" "_law_colours") ::
 (nat_lit 631,cE 1008 427 3 626 (.ref 627) .none (.ref 628) (.ref 629) 630 1015 "_law_is_odd_ring") ::
 (nat_lit 632,fE 949 631 jQ "law_onceroad_k26_two_sides_or_an_odd_ring" "_law_is_odd_ring") ::
 (nat_lit 638,cE 1018 436 2 633 (.ref 634) .none (.ref 635) (.ref 636) 637 1025 "_law_asked") ::
 (nat_lit 639,fE 949 638 qaK "law_onceroad_k26_two_sides_or_an_odd_ring" "_law_asked") ::
 (nat_lit 645,cE 1028 448 1 640 (.ref 641) .none (.ref 642) (.ref 643) 644 1032 "_law_spoil") ::
 (nat_lit 646,fE 949 645 qaL "law_onceroad_k26_two_sides_or_an_odd_ring" "_law_spoil") ::
 (nat_lit 650,cE 1035 450 1 647 (.ref 648) .none .none .none 649 1038 "law") ::
 (nat_lit 651,fE 949 650 qbY "law_onceroad_k26_two_sides_or_an_odd_ring" "law") ::
 []
noncomputable def ks:LQ:=[2,3,34,35,37,38,187,188,190,191,199,200,206,207,211,212,225,226,232,233,237,238,258,259,265,266,272,273,277,278,284,285,291,292,296,297,299,300,310,311,317,318,322,323,329,330,334,335,341,342,348,349,355,356,360,361,367,368,372,373,379,380,386,387,393,394,398,399,403,404,410,411,415,416,429,430,436,437,443,444,457,458,464,465,471,472,478,479,485,486,492,493,511,512,542,543,553,554,560,561,567,568,574,575,581,582,588,589,595,596,602,603,607,608,612,613,617,618,624,625,631,632,638,639,645,646,650,651]
theorem ks_eq:∀ P,ks=(Kf P).map (·.1):=fun P=>by kernel_rfl
noncomputable abbrev Hk:Hook:=kHook Kf ks ks_eq
noncomputable abbrev Xt(s:Shared):Bool:=xlAt Q [] s&&recOk [] s
noncomputable abbrev sn(s:Shared):=openSeen Q [] (importedModules PySem.Challenge.pw_onceroad_k26_two_sides_or_an_odd_ring.main.body) Xt true s
noncomputable def runA(w:World)(a:OsState):=(Hd.lookS PySem.Challenge.pw_onceroad_k26_two_sides_or_an_odd_ring NN w a).map fun s=>((sn s).1,(sn s).2.1,(sn s).2.2.1,(sn s).2.2.2.1)
noncomputable def runB(w:World)(a:OsState):=(Hd.lookS PySem.Challenge.pw_onceroad_k26_two_sides_or_an_odd_ring NN w a).map fun s=>(sn s).2.2.2.2
noncomputable def runC(w:World)(a:OsState):=(Hd.lookS PySem.Challenge.pw_onceroad_k26_two_sides_or_an_odd_ring NN w a).map fun s=>ks.map s.heap.get?
noncomputable def gdA(_:World)(_:OsState):=some ((openGood Q []).1,(openGood Q []).2.1,(openGood Q []).2.2.1,(openGood Q []).2.2.2.1)
noncomputable def gdB(_:World)(_:OsState):=some (openGood Q []).2.2.2.2
noncomputable def gdC(w:World)(_:OsState):=some ((Kf w.params).map fun p=>some p.2)
noncomputable def tag{a:Type}(f g:World->OsState->a):Bool:=true
theorem tag1:(tag runA gdA&&(tag runB gdB&&tag runC runC))=true:=by k_qdec
theorem hA1(w:World)(a:OsState):runA w a=gdA w a:=by
 rw[PySem.W.Fast.te530691192225776575,PySem.W.Fast.te18061595580415940433]
 kernel_rfl
theorem hB1(w:World)(a:OsState):runB w a=gdB w a:=by
 rw[PySem.W.Fast.te15692592799623559916,PySem.W.Fast.te13751176435161001534]
 kernel_rfl
theorem hC1(w:World)(a:OsState):runC w a=gdC w a:=by
 rw[PySem.W.Fast.te2117009174329987205]
 kernel_rfl
theorem hl:LeftO PySem.Challenge.pw_onceroad_k26_two_sides_or_an_odd_ring Q [] Xt (Hook.obs Hk) (Hook.val Hk) NN:=Hd.left_of (by kernel_rfl) (by decide) (fun s=>by kernel_rfl) fun w a=>(Hd.lookT_map ..).trans (Hd.packs (hA1 w a) (hB1 w a) (hC1 w a))
end K26
namespace L2
open PySem PySem.Spec PyProof.Rows
variable{A:Around}{C a b dx it:Addr}{CX:CXT}{D:Ends}{E:Value->Shared->Prop}{H:Hp}{M:Model}{N ps:LS}{P:Program}{X:Cx}{base h:Heap}{body:List Stmt}{c e tg:Expr}{ch fp:LQ}{d':Drawn}{es:List Expr}{f:Value->Value->Sem Value}{g:TG}{g':Array GenState}{i j n t':Nat}{kindOf:Str->Option NameKind}{kw:List (Str×Value)}{lo:Int}{mA mg:Str->Option Value}{o:HO}{op op':CmpOp}{outer:List Env}{pins:List (Addr×Obj)}{pl:Sem Bool}{pos:Pos}{qual x:Str}{r r':R2}{s s':Shared}{sc scope:Scope}{t te:TE}{tb:TS}{tc:TT}{u:Value}{us:List Value}{v y:V}{vs xs:List V}{w:World}{α:Type}{σ:St}
noncomputable abbrev Key:=Sum Int Str
noncomputable def qcu:Key->Value->Bool
 | .inl k,v=>Value.isInt k v
 | .inr x,v=>Value.isStrOf x v
noncomputable def keyH(w:World):Key->Int
 | .inl k=>hashInt k
 | .inr x=>hashStr w x
theorem qZ:∀{k:Key} {v:Value},qcu k v=true->(∃ i t,k=Sum.inl i/\v=Value.int i t)\/(∃ x t,k=Sum.inr x/\v=Value.str x t)
 | .inl i,v,h=>by
  obtain⟨t,e⟩:=Value.isInt_shape (k:=i) (v:=v) h;show .inl ⟨i,t,rfl,e⟩
 | .inr x,v,h=>by
  obtain⟨t,e⟩:=Value.isStrOf_shape (x:=x) (v:=v) h;show .inr ⟨x,t,rfl,e⟩
theorem keyIs_int(i:Int)(t:Tok):qcu (.inl i) (.int i t)=true:=by simp[qcu,Value.isInt]
theorem keyIs_str(x:Str)(t:Tok):qcu (.inr x) (.str x t)=true:=by simp[qcu,Value.isStrOf]
theorem key_ll(a b:Int):decide ((Sum.inl a:Key)=Sum.inl b)=(a==b):=by
 by_cases e:a=b
 .subst e;simp
 .have h:¬ (Sum.inl a:Key)=Sum.inl b:=fun q=>e (Sum.inl.inj q);rw[yl h];show(Yz.mpr e).symm
theorem key_rr(a b:Str):decide ((Sum.inr a:Key)=Sum.inr b)=decide (a=b):=by
 by_cases e:a=b
 .subst e;simp
 .have h:¬ (Sum.inr a:Key)=Sum.inr b:=fun q=>e (xj q);rw[yl h,yl e]
theorem key_lr(a:Int)(b:Str):decide ((Sum.inl a:Key)=Sum.inr b)=false:=yl (fun q=>nomatch q)
theorem key_rl(a:Str)(b:Int):decide ((Sum.inr a:Key)=Sum.inl b)=false:=yl (fun q=>nomatch q)
noncomputable def jx(prog:Program)(w:World):PySem.KeyKind prog w Key where
 is:=qcu
 hash:=keyH w
 inj:=fun v a b c hb=>by
  rcases qZ c with⟨i,t,rfl,rfl⟩ | ⟨x,t,rfl,rfl⟩
  .rcases qZ hb with⟨j,u,rfl,e⟩ | ⟨y,u,rfl,e⟩
   .injection e with e1 _;rw[e1]
   .show nomatch e
  .rcases qZ hb with⟨j,u,rfl,e⟩ | ⟨y,u,rfl,e⟩
   .show nomatch e
   .injection e with e1 _;rw[e1]
 byValue:=fun k v h=>by
  rcases qZ h with⟨i,t,rfl,rfl⟩ | ⟨x,t,rfl,rfl⟩<;>rfl
 pyHash:=fun hv h=>by
  rcases qZ hv with⟨i,t,rfl,rfl⟩ | ⟨x,t,rfl,rfl⟩
  .show wpAny_pyHash_int h
  .show wpAny_pyHash_str h
 eqBool:=fun d hv h=>by
  rcases qZ d with⟨i,t,rfl,rfl⟩ | ⟨x,t,rfl,rfl⟩
  .rcases qZ hv with⟨j,u,rfl,rfl⟩ | ⟨y,u,rfl,rfl⟩
   .rw [key_ll] at h;show wpAny_eqBool_int h
   .rw [key_lr] at h;show SeqAt.EqAt.int_str i t y u _ _ _ _ h
  .rcases qZ hv with⟨j,u,rfl,rfl⟩ | ⟨y,u,rfl,rfl⟩
   .rw [key_rl] at h;show SeqAt.EqAt.str_int x t j u _ _ _ _ h
   .rw [key_rr] at h;show wpAny_eqBool_str h
 «strs»:=fun k x t v h=>by
  rcases qZ h with⟨i,u,rfl,e⟩ | ⟨y,u,rfl,e⟩
  .show nomatch e
  .injection e with e1 _
   subst e1;cases v<;>rfl
theorem mixKind_int(prog:Program)(w:World)(i:Int)(t:Tok):(jx prog w).is (.inl i) (.int i t)=true:=keyIs_int i t
theorem mixKind_str(prog:Program)(w:World)(x:Str)(t:Tok):(jx prog w).is (.inr x) (.str x t)=true:=keyIs_str x t
inductive V where
 | non | bl (b:Bool) | int (i:Int) | str (x:Str) | byt (b:Array UInt8) | flt (b:UInt64) | ref (a:Addr) | ty (n:String)
 deriving DecidableEq
def RelV:V->Value->Prop
 | .non,u=>u=Value.none
 | .bl b,u=>u=Value.bool b
 | .int i,u=>∃ t,u=Value.int i t
 | .str x,u=>∃ t,u=Value.str x t
 | .byt b,u=>∃ t,u=Value.bytes b t
 | .flt b,u=>∃ t,u=Value.float b t
 | .ref a,u=>u=Value.ref a
 | .ty n,u=>u=Value.type n
abbrev Vals:List V->List Value->Prop:=Paired RelV
theorem Vals.length(r:Vals xs us):xs.length=us.length:=Paired.length r
theorem Vals.get:∀{xs:List V} {us:List Value} {i:Nat} {x:V},Vals xs us->xs[i]?=some x->∃ u,us[i]?=some u/\RelV x u
 | _,_,_,_,.nil,e=>by simp at e
 | _,_,0,_,.cons r _,e=>by simp at e;subst e;show⟨_,rfl,r⟩
 | _,_,i+1,x,.cons _ t,e=>by
  obtain⟨u,h1,a⟩:=Vals.get (i:=i) (x:=x) t (by simpa using e);show⟨u,by simpa using h1,a⟩
theorem Vals.set{x:V}(r:RelV x u):∀{xs:List V} {us:List Value} (i:Nat),Vals xs us->Vals (xs.set i x) (us.set i u)
 | _,_,_,.nil=>.nil
 | _,_,0,.cons _ t=>.cons r t
 | _,_,i+1,.cons q t=>.cons q (Vals.set r i t)
theorem Vals.append:∀{xs ys:List V} {us a:List Value},Vals xs us->Vals ys a->Vals (xs++ys) (us++a)
 | _,_,_,_,.nil,s=>s
 | _,_,_,_,.cons r t,s=>.cons r (Vals.append t s)
theorem Vals.take:∀{xs:List V} {us:List Value} (n:Nat),Vals xs us->Vals (xs.take n) (us.take n)
 | _,_,0,_=>.nil
 | _,_,_+1,.nil=>.nil
 | _,_,n+1,.cons r t=>.cons r (Vals.take n t)
theorem Vals.drop:∀{xs:List V} {us:List Value} (n:Nat),Vals xs us->Vals (xs.drop n) (us.drop n)
 | _,_,0,r=>r
 | _,_,_+1,.nil=>.nil
 | _,_,n+1,.cons _ t=>Vals.drop n t
def RelO:Option V->Option Value->Prop
 | some v,some u=>RelV v u
 | none,none=>True
 | _,_=>False
def KV{a:Type}:List (a×V)->List (a×Value)->Prop:=Paired fun(p:a×V) (q:a×Value)=>p.1=q.1/\RelV p.2 q.2
noncomputable def kV:Key->V
 | .inl i=>.int i
 | .inr x=>.str x
inductive HO where
 /-- a list -/
 | lst (xs:List V)
 /-- a tuple (never changes) -/
 | tup (xs:List V)
 /-- a dict whose keys are ints and texts;one whose keys are tuples of ints and texts (the empty one is both) -/
 | dK (kvs:List (Key×V)) | dT (kvs:List (List Key×V))
 /-- a set of ints: its members,its size -/
 | set (S:Int->Bool) (n:Nat)
 /-- an instance of the class at C,its dict at dx,its attributes -/
 | ins (C dx:Addr) (fs:List (Str×V))
 /-- the dict of the instance at x -/
 | own (x:Addr)
 /-- the dict of an exception -/
 | xd (fs:List (Str×V))
 /-- a bound method,f of x -/
 | met (f x:Addr)
 /-- a range object lo,lo+1,.. below hi -/
 | rng (lo hi:Int)
 /-- a thing that is known to the object (the script;a dict while a loop walks it): read,never written while it is so -/
 | frz (o:Obj) (u:HO)
 /-- a code object's table -/
 | tbl (ps:Array Value)
 /-- any other thing,by what is true of its one object (a def of one's own: SetO a S n:=HO.ext fun h=>..) -/
 | ext (φ:Heap->Prop)
noncomputable abbrev Hp:=Addr->Option HO
noncomputable def upd(H:Hp)(a:Addr)(o:HO):Hp:=fun b=>if b=a then some o else H b
theorem qb:upd H a o a=some o:=by unfold upd;rw[yG rfl]
theorem qf(h:b≠a):upd H a o b=H b:=by unfold upd;rw[yE h]
theorem zB{u:HO}(h:H a=some o)(h':H b=some u)(d:o≠u):a≠b:=by
 intro e;subst e;rw[h] at h';show d (ym h')
theorem qI(h:H a=some o)(h':H b=none):a≠b:=by
 intro e;subst e;rw[h] at h';cases h'
section
variable(P:Program)(w:World)
def ObjOk(H:Hp)(h:Heap)(a:Addr):HO->Prop
 | .lst xs=>xs.length<=sizeLine/\∃(b:List Value) (n:Nat),Vals xs b/\h.get? a=some { cls:=.type "list",data:=.seq b.toArray n }
 | .tup xs=>xs.length<=sizeLine/\∃ b:List Value,Vals xs b/\IsTup h a b.toArray
 | .dK kvs=>kvs.length<=sizeLine/\(a==sysModules)=false/\∃ vs,KV kvs vs/\h.DictOf (jx P w) a vs
 | .dT kvs=>kvs.length<=sizeLine/\(a==sysModules)=false/\∃ xs:List (List Key×Addr×Value),
   Paired (fun(p:List Key×V) (q:List Key×Addr×Value)=>p.1=q.1/\H q.2.1=some (.tup (p.1.map kV))/\RelV p.2 q.2.2) kvs xs /\
   ∃ o es ep,h.get? a=some o/\o.ExactDict/\o.data=.dict es ep/\es.toList=xs.map (entryOfKey (tupleKind (jx P w)))/\(xs.map (·.1)).Nodup
 | .set S n=>h.SetOf (intKind P w) a S n
 | .ins C dx fs=>H dx=some (.own a)/\fs.length<=1000/\dx≠a/\h.get? a=some (PySem.W.instObj C dx) /\
   ∃ mA,h.Ns1 dx mA/\(∀ f,RelO (fs.lookup f) (mA f))/\PySem.Within mA (fs.map (·.1))
 | .own _=>∃ o,h.get? a=some o
 | .xd fs=>∃ mA,h.Ns1 a mA/\∀ f,RelO (fs.lookup f) (mA f)
 | .rng lo hi=>∃ t u v,h.get? a=some { cls:=.type "range",data:=.fields #[.int lo t,.int hi u,.int 1 v] }
 | .frz o u=>h.get? a=some o/\ObjOk H h a u
 | .tbl ps=>h.get? a=some { cls:=.none,data:=.fields ps }
 | .met f x=>h.get? a=some (PySem.W.methodObj (.ref f) (.ref x))
 | .ext φ=>φ h/\(∃ o,h.get? a=some o)/\∀ h1 c:Heap,φ h1->(∀ o,h1.get? a=some o->c.get? a=some o)->φ c
def HOk(H:Hp)(h:Heap):Prop:=∀ a o,H a=some o->ObjOk P w H h a o
end
section
variable{P:Program}{w:World}{H H':Hp}{h h':Heap}{a:Addr}{o:HO}
theorem ObjOk.lt(x:ObjOk P w H h a o):a<h.objs.size:=by
 cases o with
 | lst xs=>obtain⟨_,_,_,_,e⟩:=x;show yI e
 | tup xs=>obtain⟨_,_,_,p⟩:=x;show p.lt
 | dK kvs=>obtain⟨_,_,_,_,o,_,_,e,_⟩:=x;show yI e
 | dT kvs=>obtain⟨_,_,_,_,o,_,_,e,_⟩:=x;show yI e
 | set S n=>obtain⟨o,_,_,_,e,_⟩:=x;show yI e
 | ins C dx fs=>obtain⟨_,_,_,e,_⟩:=x;show yI e
 | own y=>obtain⟨_,e⟩:=x;show yI e
 | xd fs=>obtain⟨_,⟨_,_,_,e,_⟩,_⟩:=x;show yI e
 | rng lo hi=>obtain⟨_,_,_,e⟩:=x;show yI e
 | frz ob u=>obtain⟨e,_⟩:=x;show yI e
 | tbl ps=>show yI (show h.get? a=some _ from x)
 | met f y=>show yI (show h.get? a=some _ from x)
 | ext φ=>obtain⟨_,⟨_,e⟩,_⟩:=x;show yI e
theorem Paired.mapP{c:Type}{F G:α->c->Prop}:∀{l₁:List α} {l₂:List c},Paired F l₁ l₂->(∀ a b,F a b->G a b)->Paired G l₁ l₂
 | _,_,.nil,_=>.nil
 | _,_,.cons r t,f=>.cons (f _ _ r) (Paired.mapP t f)
theorem ObjOk.stay(x:ObjOk P w H h a o)(k:∀ b u,(b=a\/H b=some (.own a))->h.get? b=some u->h'.get? b=some u)
  (l:∀ b,H b=some (.own a)->H' b=some (.own a)) (m:∀ b xs,H b=some (.tup xs)->H' b=some (.tup xs)):ObjOk P w H' h' a o:=by
 induction o with
 | lst xs=>obtain⟨z,i,n,r,e⟩:=x;show⟨z,i,n,r,k _ _ (.inl rfl) e⟩
 | tup xs=>obtain⟨z,i,r,g,e,c⟩:=x;show⟨z,i,r,g,k _ _ (.inl rfl) e,c⟩
 | dK kvs=>obtain⟨z,y,vs,r,g,es,ep,e,c⟩:=x;show⟨z,y,vs,r,g,es,ep,k _ _ (.inl rfl) e,c⟩
 | dT kvs =>
  obtain⟨z,y,xs,r,g,es,ep,e,c⟩:=x;show⟨z,y,xs,Paired.mapP r fun p q z=>⟨z.1,m _ _ z.2.1,z.2.2⟩,g,es,ep,k _ _ (.inl rfl) e,c⟩
 | set S n=>obtain⟨g,es,ep,t,e,c⟩:=x;show⟨g,es,ep,t,k _ _ (.inl rfl) e,c⟩
 | ins C dx fs =>
  obtain⟨d,z,ne,e,mA,⟨od,es,ep,j,c⟩,r⟩:=x;show⟨l _ d,z,ne,k _ _ (.inl rfl) e,mA,⟨od,es,ep,k _ _ (.inr d) j,c⟩,r⟩
 | own y=>obtain⟨g,e⟩:=x;show⟨g,k _ _ (.inl rfl) e⟩
 | xd fs=>obtain⟨mA,⟨od,es,ep,e,c⟩,r⟩:=x;show⟨mA,⟨od,es,ep,k _ _ (.inl rfl) e,c⟩,r⟩
 | rng lo hi=>obtain⟨t,u,v,e⟩:=x;show⟨t,u,v,k _ _ (.inl rfl) e⟩
 | frz g u ih=>obtain⟨e,q⟩:=x;show⟨k _ _ (.inl rfl) e,ih q⟩
 | tbl ps =>
  have e:h.get? a=some { cls:=.none,data:=.fields ps }:=x;show h'.get? a=some { cls:=.none,data:=.fields ps };show k a _ (.inl rfl) e
 | met f y =>
  have e:h.get? a=some (PySem.W.methodObj (.ref f) (.ref y)):=x;show h'.get? a=some (PySem.W.methodObj (.ref f) (.ref y));show k a _ (.inl rfl) e
 | ext φ=>obtain⟨p,⟨o,e⟩,st⟩:=x;show⟨st _ _ p fun o q=>k _ _ (.inl rfl) q,⟨o,k _ _ (.inl rfl) e⟩,st⟩
theorem HOk.lt(x:HOk P w H h)(e:H a=some o):a<h.objs.size:=(x a o e).lt
theorem HOk.fresh(x:HOk P w H h)(e:h.objs.size<=a):H a=none:=by
 cases q:H a with
 | none=>rfl
 | some u=>show absurd (yj (x.lt q) e) (Yu _)
theorem HOk.kept(x:HOk P w H h)(k:∀ b u,h.get? b=some u->h'.get? b=some u):HOk P w H h':=fun a o e =>
 (x a o e).stay (fun b u _ q=>k b u q) (fun _ q=>q) fun _ _ q=>q
theorem HOk.laid(x:HOk P w H h)(k:∀ b u,h.get? b=some u->h'.get? b=some u)(f:h.objs.size<=a)(new:ObjOk P w (upd H a o) h' a o):HOk P w (upd H a o) h':=fun b u e=>by
 have d:=x.fresh f;by_cases hb:b=a
 .subst hb;rw[qb] at e;cases e;show new
 .rw [qf hb] at e;show(x b u e).stay (fun c v _ q=>k c v q) (fun c q=>by rw[qf (qI q d)];show q) fun c xs q=>by rw[qf (qI q d)];show q
end
def Rd(H:Hp)(a:Addr)(u:HO):Prop:=H a=some u\/∃ o,H a=some (.frz o u)
theorem Rd.ok{u:HO}(r:Rd H a u)(x:HOk P w H h):ObjOk P w H h a u:=by
 rcases r with r | ⟨o,r⟩
 .show x a u r
 .obtain⟨_,q⟩:=x a _ r;show q
def Mut:Option HO->Prop
 | some (.lst _)=>True
 | some (.dK _)=>True
 | some (.dT _)=>True
 | some (.set _ _)=>True
 | some (.ins _ _ _)=>True
 | some (.ext _)=>True
 | _=>False
section
variable{P:Program}{w:World}{H:Hp}{h h':Heap}{x e:Addr}{o':HO}
theorem HOk.write(ok:HOk P w H h)(g:Mut (H x))(j:e=x\/H e=some (.own x))(k:∀ b u,b≠e->h.get? b=some u->h'.get? b=some u)(i:∃ u,h'.get? e=some u)
  (new:ObjOk P w (upd H x o') h' x o'):HOk P w (upd H x o') h':=fun b u q=>by
 have d:∀ c y,H c=some (.own y)->c≠x:=fun c y r z=>by subst z;rw[r] at g;show g
 have f:∀ c xs,H c=some (.tup xs)->c≠x:=fun c xs r z=>by subst z;rw[r] at g;show g
 by_cases hb:b=x
 .subst hb;rw[qb] at q;cases q;show new
 .rw [qf hb] at q;by_cases a:b=e
  .have l:H b=some (.own x):=by
    rcases j with z | z
    .show absurd (a.trans z) hb
    .rw [a];show z
   rw[q] at l;cases l;obtain⟨v,hv⟩:=i;show⟨v,by rw[a];show hv⟩
  .show(ok b u q).stay (fun c v hc r=>k c v ?_ r) (fun c r=>by rw[qf (d c b r)];show r) fun c xs r=>by rw[qf (f c xs r)];show r
   rcases hc with rfl | hc
   .show a
   .rintro rfl;rcases j with z | z
    .show d c b hc z
    .rw [hc] at z;cases z;show hb rfl
end
structure Un(fs ex:LQ)(H H':Hp)(h h':Heap):Prop where
 keep:∀ b o,h.get? b=some o->H b=none->b∉fs->b∉ex->h'.get? b=some o
 slot:∀ b o,h.get? b=some o->H b=none->b∈fs->b∉ex->∃ sl,h'.get? b=some { o with slots:=sl }
 free:∀ b o,h.get? b=some o->H b=none->b∉ex->H' b=none
 there:∀ b o,h.get? b=some o->b∉ex->∃ o',h'.get? b=some o'
 tups:∀ b xs,H b=some (.tup xs)->H' b=some (.tup xs)
 frzs:∀ b o u,H b=some (.frz o u)->H' b=some (.frz o u)
 tbls:∀ b ps,H b=some (.tbl ps)->∃ more,H' b=some (.tbl (ps++more))
section
variable{fs fs' ex ex':LQ}{H H1 H2:Hp}{h h1 h2 h':Heap}{a x e:Addr}{o:HO}
theorem Un.any(u:Un fs ex H H1 h h1){a:Obj}(q:h.get? b=some a)(n:H b=none)(c:b∉ex):∃ d,h1.get? b=some { a with slots:=d }:=by
 by_cases hb:b∈fs
 .show u.slot b a q n hb c
 .show⟨a.slots,u.keep b a q n hb c⟩
theorem Un.kept(k:∀ b u,h.get? b=some u->h'.get? b=some u):Un fs ex H H h h':=
 ⟨fun b a q _ _ _=>k b a q,fun b a q _ _ _=>⟨a.slots,k b a q⟩,fun _ _ _ n _=>n,fun b a q _=>⟨a,k b a q⟩,fun _ _ q=>q,fun _ _ _ q=>q,fun _ ps q=>⟨#[],by rw[q];simp⟩⟩
theorem Un.refl:Un fs ex H H h h:=Un.kept fun _ _ q=>q
theorem Un.laid(k:∀ b u,h.get? b=some u->h'.get? b=some u)(d:h.objs.size<=a)(c:H a=none):Un fs ex H (upd H a o) h h' where
 keep:=fun b u q _ _ _=>k b u q
 slot:=fun b u q _ _ _=>⟨u.slots,k b u q⟩
 free:=fun b u q n _=>by rw[qf (yJ (yj (yI q) d))];show n
 there:=fun b u q _=>⟨u,k b u q⟩
 tups:=fun b xs q=>by rw[qf (qI q c)];show q
 frzs:=fun b u xs q=>by rw[qf (qI q c)];show q
 tbls:=fun b ps q=>⟨#[],by rw[qf (qI q c),q];simp⟩
theorem Un.write(c:Mut (H x))(i:e=x\/H e=some (.own x))(k:∀ b u,b≠e->h.get? b=some u->h'.get? b=some u)(d:∃ u,h'.get? e=some u):Un fs ex H (upd H x o) h h':=by
 have g:∀ b,H b=none->b≠x:=fun b n z=>by subst z;rw[n] at c;show c
 have hb:∀ b,H b=none->b≠e:=fun b n z=>by
  subst z;rcases i with r | r
  .show g b n r
  .rw [n] at r;cases r
 have f:∀ b u,H b=some u->¬ Mut (some u)->b≠x:=fun b u q j z=>by subst z;rw[q] at c;show j c
 show⟨fun b u q n _ _=>k b u (hb b n) q,fun b u q n _ _=>⟨u.slots,k b u (hb b n) q⟩,fun b u q n _=>by rw[qf (g b n)];show n,fun b u q _=>?_,
  fun b xs q=>by rw[qf (f b _ q fun z=>z)];show q,fun b u xs q=>by rw[qf (f b _ q fun z=>z)];show q,fun b ps q=>⟨#[],by rw[qf (f b _ q fun z=>z),q];simp⟩⟩
 by_cases a:b=e
 .subst a;show d
 .show⟨u,k b u a q⟩
end
noncomputable def trk(h:Heap)(H:Hp):LQ:=(List.range h.objs.size).filter fun a=>(H a).isSome
noncomputable def qd5(h:Heap)(H:Hp):Heap:=PySem.W.hideAll h (trk h H)
theorem hidT_size(h:Heap)(H:Hp):(qd5 h H).objs.size=h.objs.size:=PySem.W.hideAll_size _ _
theorem hidT_get{o:Obj}(e:h.get? b=some o)(n:H b=none):(qd5 h H).get? b=some o:=
 PySem.W.hideAll_get _ e fun a=>by
  have q:(H b).isSome=true:=(yp.mp a).2;rw[n] at q;simp at q
theorem of_hidT{o:Obj}(e:(qd5 h H).get? b=some o):h.get? b=some o/\H b=none:=by
 have a:h.get? b=some o:=PySem.W.of_hideAll (trk h H) e;show⟨a,?_⟩
 cases q:H b with
 | none=>rfl
 | some x =>
  have c:b∈trk h H:=yp.mpr ⟨xV.mpr (yI a),by simp[q]⟩;have z:(qd5 h H).get? b=none:=PySem.W.hideAll_none (trk h H) c;rw[z] at e;cases e
noncomputable def allNews(g h:Heap)(L:Addr):List (Addr×Obj):=(List.range h.objs.size).filterMap fun a=>if a=L\/(g.get? a).isSome=true then none else(h.get? a).map fun o=>(a,o)
noncomputable def rest(g h:Heap)(L d:Addr):List (Addr×Obj):=(allNews g h L).filter fun p=>decide (p.1≠d)
structure Mod(K:yg)(mg:Str->Option Value)(base:Heap):Prop where
 kin:K.In base
 glob:base.Ns mainGlobals mg
 blt:∃ mb,base.Ns builtinsNs mb/\∀ x:Str,x≠"__name__"->mb x=bootBuiltins x
 nolimit:base.NoLimit
structure Cx where
 prog:Program
 w:World
 K:yg
 mg:Str->Option Value
 base:Heap
 A:Around
 N:LS
 s₀:Shared
 H₀:Hp
 env:Env
 outer:List Env
 stack:List Env
 ex:LQ
 fn:Str->Bool
 calm:Bool
 pn:List (Addr×Obj)
 xe:Value->Shared->Prop
noncomputable def frs(l:List Env):LQ:=l.filterMap (·.frame)
noncomputable abbrev Cx.fs(X:Cx):LQ:=frs X.outer
def Vis(sc:Scope)(x:Str):Prop:=sc.names.lookup x=some .local\/sc.names.lookup x=some .cell\/sc.names.lookup x=some .free
def Loc(sc:Scope)(x:Str):Prop:=sc.names.lookup x=some .local\/sc.names.lookup x=some .cell
def Look(env:Env)(h:Heap)(m:Str->Option Value)(x:Str)(u:Value):Prop:=
 (env.kindOf x=some .local/\m x=some u)\/((env.kindOf x=some .cell\/env.kindOf x=some .free)/\∃ c,env.cells.lookup x=some c/\h.IsCell c (some u))
structure Cx.Ok(X:Cx):Prop where
 mod:Mod X.K X.mg X.base
 kind:X.env.scope.kind=.function
 glob:X.env.globals=mainGlobals
 blt:X.env.builtins=builtinsNs
 above:X.s₀.heap.objs.size<=X.env.locals
 inj:∀ x y c,X.env.cells.lookup x=some c->X.env.cells.lookup y=some c->x=y
 has:∀ x,(X.env.kindOf x=some .cell\/X.env.kindOf x=some .free)->∃ c,X.env.cells.lookup x=some c
 cab:∀ x c,X.fn x=true->X.env.cells.lookup x=some c->X.s₀.heap.objs.size<=c
 hd:X.calm=true->X.A.handled=none
 frames:X.A.frames=some X.stack
 stk:X.stack=X.outer\/(X.stack=X.env::X.outer/\X.env.frame=some X.env.locals)
 exf:∀ b∈X.ex,b≠X.env.locals/\∀ x c,X.env.cells.lookup x=some c->c≠b
 bs:∀ b o,X.base.get? b=some o->X.s₀.heap.get? b=some o/\X.H₀ b=none
 bsz:X.base.objs.size<=X.s₀.heap.objs.size
 noex:∀ b o,X.base.get? b=some o->b∉X.ex
 exfs:∀ b∈X.ex,b∉X.fs
 funs:X.s₀.heap.FunFrames X.base X.outer
 frf:∀ b∈X.fs,X.H₀ b=none
structure Inv(X:Cx)(pins:List (Addr×Obj))(σ:List (Option V))(H:Hp)(s:Shared):Prop where
 ok:X.Ok
 os:s.os=X.s₀.os
 bare:AllBare s.gens
 base:Un X.fs X.ex X.H₀ H X.s₀.heap s.heap
 loc:∃ m,s.heap.Ns X.env.locals m/\∀(i:Nat) (x:Str) (v:V),X.N[i]?=some x->σ[i]?=some (some v)->Vis X.env.scope x->∃ u,RelV v u/\Look X.env s.heap m x u
 cell:∀ x c,X.env.cells.lookup x=some c->∃ v,s.heap.IsCell c v
 free:H X.env.locals=none
 freeC:∀ x c,X.env.cells.lookup x=some c->H c=none
 pin:∀ p∈X.pn++pins,s.heap.get? p.1=some p.2/\H p.1=none/\p.1≠X.env.locals/\p.1∉X.fs/\∀ v,p.2.data≠.cell v
 hok:HOk X.prog X.w H s.heap
 len:σ.length=X.N.length
section
variable{X:Cx}{pins:List (Addr×Obj)}{σ:List (Option V)}{H H':Hp}{s:Shared}{h':Heap}
theorem Cx.Ok.nofr(ok:X.Ok){o:Obj}(e:X.base.get? b=some o):b∉X.fs:=fun hb=>by
 have:=(ok.funs.mem hb).1;rw[e] at this;cases this
theorem Inv.bs(I:Inv X pins σ H s):∀ b o,X.base.get? b=some o->s.heap.get? b=some o/\H b=none:=fun b o e =>
 ⟨I.base.keep b o (I.ok.bs b o e).1 (I.ok.bs b o e).2 (I.ok.nofr e) (I.ok.noex b o e),I.base.free b o (I.ok.bs b o e).1 (I.ok.bs b o e).2 (I.ok.noex b o e)⟩
theorem Inv.bk(I:Inv X pins σ H s):∀ b o,X.base.get? b=some o->s.heap.get? b=some o:=fun b o e=>(I.bs b o e).1
theorem Inv.mod(I:Inv X pins σ H s):Mod X.K X.mg X.base:=I.ok.mod
theorem Inv.kIn(I:Inv X pins σ H s):X.K.In s.heap:=I.ok.mod.kin.keeps I.bk
theorem Inv.lt(I:Inv X pins σ H s):X.env.locals<s.heap.objs.size:=let ⟨_,hn,_⟩:=I.loc;hn.lt
theorem Inv.sz(I:Inv X pins σ H s):X.s₀.heap.objs.size<=s.heap.objs.size:=yi I.ok.above (yT I.lt)
theorem Inv.nofs(I:Inv X pins σ H s)(h:s.heap.objs.size<=a):a∉X.fs:=fun hb=>by
 obtain⟨_,o,b,_⟩:=I.ok.funs.mem hb;show absurd (yj (yI b) (yi I.sz h)) (Yu _)
theorem Inv.cne(I:Inv X pins σ H s):∀ x c,X.env.cells.lookup x=some c->c≠X.env.locals:=fun x c e z=>by
 obtain⟨v,o,f,d⟩:=I.cell x c e;obtain⟨m,⟨g,es,ep,b,a,_⟩,_⟩:=I.loc;rw[z,b] at f;cases f;rw[a] at d;cases d
theorem Inv.funs(I:Inv X pins σ H s):s.heap.FunFrames X.base X.outer:=by
 have all:∀(l:List Env),(∀ b∈frs l,b∈X.fs)->X.s₀.heap.FunFrames X.base l->s.heap.FunFrames X.base l:=by
  intro l
  induction l with
  | nil=>intro _ _;trivial
  | cons env r ih =>
   intro d hl;obtain⟨g,⟨L,o,c,h,i,f⟩,j⟩:=hl;have a:L∈X.fs:=d L (by unfold frs;rw[xT,c];show yY);obtain⟨m,e⟩:=I.base.slot L o i (I.ok.frf L a) a fun z=>I.ok.exfs L z a;show⟨g,⟨L,_,c,h,e,f⟩,ih (fun b hb=>d b (by unfold frs;rw[xT,c];show yN _ hb)) j⟩
 show all X.outer (fun _ hb=>hb) I.ok.funs
theorem Inv.stack(I:Inv X pins σ H s):s.heap.FunFrames X.base X.stack:=by
 rcases I.ok.stk with e | ⟨e,hf⟩
 .rw [e];show I.funs
 .rw [e];obtain⟨m,a,_⟩:=I.loc;show .cons (by rw[I.ok.kind];decide) hf a ?_ I.funs;show Heap.get?_none_of_le (yi I.ok.bsz I.ok.above)
theorem Inv.stkSub(I:Inv X pins σ H s):∀ b∈frs X.stack,b∈X.env.locals::X.fs:=fun b hb=>by
 rcases I.ok.stk with e | ⟨e,hf⟩
 .rw [e] at hb;show yN _ hb
 .rw [e] at hb;unfold frs at hb;rw[xT,hf] at hb;show hb
theorem Inv.stkFree(I:Inv X pins σ H s):∀ b∈frs X.stack,H b=none:=fun b hb=>by
 rcases yz.mp (I.stkSub b hb) with e | hb
 .rw [e];show I.free
 .obtain⟨_,o,a,_⟩:=I.ok.funs.mem hb;show I.base.free b o a (I.ok.frf b hb) fun z=>I.ok.exfs b z hb
theorem Inv.step(I:Inv X pins σ H s)
  (f:∀ b∈ch,(b∈X.ex\/X.s₀.heap.objs.size<=b)/\b≠X.env.locals/\(∀ x c,X.env.cells.lookup x=some c->c≠b)/\∀ p∈X.pn++pins,p.1≠b)
  (keep:∀ b o,b≠X.env.locals->b∉X.fs->b∉ch->s.heap.get? b=some o->H b=none->h'.get? b=some o)
  (t:∀ b o,b≠X.env.locals->b∈X.fs->b∉ch->s.heap.get? b=some o->H b=none->∃ M,h'.get? b=some { o with slots:=M }) (free:∀ b o,b∉ch->s.heap.get? b=some o->H b=none->H' b=none)
  (y:∀ b o,b∉ch->s.heap.get? b=some o->∃ F,h'.get? b=some F)
  (J:∀ b xs,H b=some (.tup xs)->H' b=some (.tup xs)) (C:∀ b o u,H b=some (.frz o u)->H' b=some (.frz o u)) (G:∀ b ps,H b=some (.tbl ps)->∃ D,H' b=some (.tbl (ps++D)))
  (ns:∀ m,s.heap.Ns X.env.locals m->h'.Ns X.env.locals m) (L:HOk X.prog X.w H' h') (S:AllBare g') :
  Inv X pins σ H' { s with heap:=h',gens:=g',drawn:=d',toks:=t' }:=by
 have E:∀ b o,X.s₀.heap.get? b=some o->b≠X.env.locals:=fun b o e=>yJ (yj (yI e) I.ok.above)
 have j:∀ b o,X.s₀.heap.get? b=some o->b∉X.ex->b∉ch:=fun b o e a hb=>by
  rcases(f b hb).1 with z | z
  .show a z
  .show absurd (yj (yI e) z) (Yu _)
 have cellK:∀ x c,X.env.cells.lookup x=some c->∀ v,s.heap.IsCell c v->h'.IsCell c v:=fun x c e v ⟨o,A,K⟩=>by
  have g:c∉ch:=fun z=>(f c z).2.2.1 x c e rfl;by_cases hc:c∈X.fs
  .obtain⟨M,q⟩:=t c o (I.cne x c e) hc g A (I.freeC x c e);show⟨_,q,K⟩
  .show⟨o,keep c o (I.cne x c e) hc g A (I.freeC x c e),K⟩
 show⟨I.ok,I.os,S,⟨fun b o e n hb a=>?_,fun b o e n hb a=>?_,fun b o e n a=>?_,fun b o e a=>?_,fun b xs e=>J b xs (I.base.tups b xs e),fun b o xs e=>C b o xs (I.base.frzs b o xs e),fun b ps e=>?_⟩,?_,fun x c e=>?_,?_,fun x c e=>?_,fun p O=>?_,L,I.len⟩
 .show keep b o (E b o e) hb (j b o e a) (I.base.keep b o e n hb a) (I.base.free b o e n a)
 .obtain⟨M,h⟩:=I.base.slot b o e n hb a;obtain⟨N,B⟩:=t b _ (E b o e) hb (j b o e a) h (I.base.free b o e n a);show⟨N,B⟩
 .obtain⟨F,h⟩:=I.base.there b o e a;show free b F (j b o e a) h (I.base.free b o e n a)
 .obtain⟨F,h⟩:=I.base.there b o e a;show y b F (j b o e a) h
 .obtain⟨U,h⟩:=I.base.tbls b ps e;obtain⟨W,B⟩:=G b _ h;show⟨U++W,by rw[B,Array.append_assoc]⟩
 .obtain⟨m,T,hl⟩:=I.loc;show⟨m,ns m T,fun i x v h B R=>?_⟩;obtain⟨u,r,l⟩:=hl i x v h B R;show⟨u,r,?_⟩;rcases l with l | ⟨k,c,e,z⟩
  .show .inl l
  .show .inr ⟨k,c,e,cellK x c e _ z⟩
 .obtain⟨v,z⟩:=I.cell x c e;show⟨v,cellK x c e v z⟩
 .obtain⟨m,⟨o,_,_,A,_⟩,_⟩:=I.loc;show free _ o (fun z=>(f _ z).2.1 rfl) A I.free
 .obtain⟨v,o,A,K⟩:=I.cell x c e;show free c o (fun z=>(f c z).2.2.1 x c e rfl) A (I.freeC x c e)
 .obtain⟨e,n,ne,P,d⟩:=I.pin p O;have g:p.1∉ch:=fun z=>(f p.1 z).2.2.2 p O rfl;show⟨keep p.1 p.2 ne P g e n,free p.1 p.2 g e n,ne,P,d⟩
theorem Inv.un(I:Inv X pins σ H s)(u:Un X.fs [] H H' s.heap h')(d:HOk X.prog X.w H' h'):Inv X pins σ H' { s with heap:=h',toks:=t' }:=by
 obtain⟨m,⟨o,es,ep,f,r⟩,_⟩:=id I.loc;obtain⟨l,g⟩:=u.any f I.free (by simp)
 show I.step (g':=s.gens) (d':=s.drawn) (ch:=[]) (fun _ z=>nomatch z) (fun b o _ hb _ e n=>u.keep b o e n hb (by simp)) (fun b o _ hb _ e n=>u.slot b o e n hb (by simp)) (fun b o _ e n=>u.free b o e n (by simp)) (fun b o _ e=>u.there b o e (by simp)) u.tups u.frzs u.tbls (fun i h=>by
  obtain⟨j,es',c,a,r'⟩:=h;rw[f] at a;cases a;show⟨_,es',c,g,r'⟩) d I.bare
theorem Inv.call(I:Inv X pins σ H s)(u:Un (frs X.stack) ch H H' s.heap h')(h:HOk X.prog X.w H' h')(j:AllBare g')
  (a:∀ b∈ch,(b∈X.ex\/X.s₀.heap.objs.size<=b)/\b≠X.env.locals/\(∀ x c,X.env.cells.lookup x=some c->c≠b)/\∀ p∈X.pn++pins,p.1≠b) :
  Inv X pins σ H' { s with heap:=h',gens:=g',drawn:=d',toks:=t' }:=by
 obtain⟨m,⟨o,es,ep,i,r⟩,_⟩:=id I.loc;obtain⟨v,g⟩:=u.any i I.free fun z=>(a _ z).2.1 rfl
 show I.step (ch:=ch) a (fun b o g hb hc e n=>u.keep b o e n (fun z=>(yz.mp (I.stkSub b z)).elim g hb) hc) (fun b o _ _ hc e n=>u.any e n hc) (fun b o hc e n=>u.free b o e n hc) (fun b o hc e=>u.there b o e hc) u.tups u.frzs u.tbls (fun q l=>by
  obtain⟨t,es',f,d,r'⟩:=l;rw[i] at d;cases d;show⟨_,es',f,g,r'⟩) h j
theorem Inv.turned(I:Inv X pins σ H s)(k:∀ b o,b≠it->s.heap.get? b=some o->h'.get? b=some o)(i:H it=none)(d:it≠X.env.locals)
  (h1:it∈X.ex\/X.s₀.heap.objs.size<=it) (f:∀ x c,X.env.cells.lookup x=some c->c≠it) (g:∀ p∈X.pn++pins,p.1≠it):Inv X pins σ H { s with heap:=h',toks:=t' }:=by
 have a:∀ b u,H b=some u->b≠it:=fun b u e z=>by rw[z,i] at e;cases e
 show I.step (g':=s.gens) (d':=s.drawn) (ch:=[it]) (fun b hb=>?_) (fun b o _ _ hc e _=>k b o (fun z=>hc (by simp[z])) e) (fun b o _ _ hc e _=>⟨o.slots,k b o (fun z=>hc (by simp[z])) e⟩) (fun _ _ _ _ n=>n)
  (fun b o hc e=>⟨o,k b o (fun z=>hc (by simp[z])) e⟩) (fun _ _ e=>e) (fun _ _ _ e=>e) (fun b ps e=>⟨#[],by rw[e];simp⟩) (fun m h=>?_) (fun b u e=>?_) I.bare
 .have e:b=it:=by simpa using hb
  subst e;show⟨h1,d,f,g⟩
 .obtain⟨o,es,ep,j,r⟩:=h;show⟨o,es,ep,k _ o (Yd d) j,r⟩
 .show(I.hok b u e).stay (fun c v hc q=>k c v ?_ q) (fun _ q=>q) fun _ _ q=>q;rcases hc with z | z
  .rw [z];show a b u e
  .show a c _ z
theorem Inv.tok(I:Inv X pins σ H s)(t:Nat):Inv X pins σ H { s with toks:=t }:=I.un (h':=s.heap) (t':=t) Un.refl I.hok
theorem Inv.kept(I:Inv X pins σ H s)(k:∀ b u,s.heap.get? b=some u->h'.get? b=some u):Inv X pins σ H { s with heap:=h',toks:=t' }:=I.un (Un.kept k) (I.hok.kept k)
theorem Inv.laid(I:Inv X pins σ H s)(k:∀ b u,s.heap.get? b=some u->h'.get? b=some u)(c:s.heap.objs.size<=a)(new:ObjOk X.prog X.w (upd H a o) h' a o) :
  Inv X pins σ (upd H a o) { s with heap:=h',toks:=t' }:=I.un (Un.laid k c (I.hok.fresh c)) (I.hok.laid k c new)
theorem Inv.write{x e:Addr}(I:Inv X pins σ H s)(d:Mut (H x))(c:e=x\/H e=some (.own x))(k:∀ b u,b≠e->s.heap.get? b=some u->h'.get? b=some u)(a:∃ u,h'.get? e=some u)
  (new:ObjOk X.prog X.w (upd H x o) h' x o):Inv X pins σ (upd H x o) { s with heap:=h',toks:=t' }:=I.un (Un.write d c k a) (I.hok.write d c k a new)
theorem Inv.weak{a:List (Option V)}(I:Inv X pins σ H s)(hl:a.length=σ.length)(w:∀(i:Nat) v,a[i]?=some (some v)->σ[i]?=some (some v)):Inv X pins a H s:=
 ⟨I.ok,I.os,I.bare,I.base,let ⟨m,hn,hl'⟩:=I.loc;⟨m,hn,fun i x v b c d=>hl' i x v b (w i v c) d⟩,I.cell,I.free,I.freeC,I.pin,I.hok,hl.trans I.len⟩
theorem Inv.pins_of{pins':List (Addr×Obj)}(I:Inv X pins σ H s)(h:∀ p∈pins',s.heap.get? p.1=some p.2/\H p.1=none/\p.1≠X.env.locals/\p.1∉X.fs/\∀ v,p.2.data≠.cell v):Inv X pins' σ H s:=
 ⟨I.ok,I.os,I.bare,I.base,I.loc,I.cell,I.free,I.freeC,fun p a=>(yx.mp a).elim (fun z=>I.pin p (yS _ z)) (h p),I.hok,I.len⟩
theorem qbE(e:N.Nodup)(a:N[i]?=some x)(b:N[j]?=some x):i=j:=by
 obtain⟨h1,c⟩:=yc.mp a;obtain⟨f,d⟩:=yc.mp b;show(List.getElem_inj e).mp (c.trans d.symm)
theorem qb0{Q:Unit->Shared->Prop}(I:Inv X pins σ H s)(hN:X.N.Nodup)(O:X.N[i]?=some x)(t:Loc X.env.scope x)(r:RelV v u)
  (h:∀ s',Inv X pins (σ.set i (some v)) H s'->(∃ a,Heap.SameBut a s.heap s'.heap/\(a=X.env.locals\/X.env.cells.lookup x=some a))->Q () s') (hf:X.fn x=true\/X.env.scope.names.lookup x=some .local:=by first | show .inl rfl | show .inr rfl | assumption):wpAny M A (storeName X.env x u) Q E s:=by
 obtain⟨m,W,hl⟩:=id I.loc;have L:(X.env.scope.kind==.class||(X.env.scope.kind==.module&&X.env.locals != X.env.globals))=false:=by rw[I.ok.kind];rfl
 have D:i<σ.length:=by rw[I.len];show(yc.mp O).1
 have cne:=I.cne
 have l:∀{a:Addr} {h':Heap},(∃ o,s.heap.get? a=some o/\H a=none)->Heap.SameBut a s.heap h'->HOk X.prog X.w H h':=fun{a h'} ha f b ob e=>by
  obtain⟨_,_,B⟩:=ha;show(I.hok b ob e).stay (fun c T hc q=>(f.2 c ?_).trans q) (fun _ q=>q) fun _ _ q=>q;rintro rfl;rcases hc with rfl | hc
  .rw [B] at e;cases e
  .rw [B] at hc;cases hc
 rcases t with hk | hk
 .show wpAny_storeName_local hk W (fun h' Y f=>?_) L;obtain⟨oL,_,_,Z,_⟩:=id W;show h _ ⟨I.ok,I.os,I.bare,⟨fun b o e n hb t=>?_,fun b o e n hb t=>?_,I.base.free,fun b o e t=>?_,I.base.tups,I.base.frzs,I.base.tbls⟩,⟨_,Y,fun j y v' g C U=>?_⟩,fun y c e=>?_,I.free,I.freeC,fun p hp=>?_,l ⟨oL,Z,I.free⟩ f,by simpa using I.len⟩ ⟨_,f,.inl rfl⟩
  .show(f.2 b (yJ (yj (yI e) I.ok.above))).trans (I.base.keep b o e n hb t)
  .obtain⟨sl,g⟩:=I.base.slot b o e n hb t;show⟨sl,(f.2 b (yJ (yj (yI e) I.ok.above))).trans g⟩
  .obtain⟨o',g⟩:=I.base.there b o e t;show⟨o',(f.2 b (yJ (yj (yI e) I.ok.above))).trans g⟩
  .by_cases G:j=i
   .subst G;rw[O] at g;cases g;rw[Xe D] at C;cases C;show⟨u,r,.inl ⟨hk,by simp⟩⟩
   .rw [xr (Yd G)] at C;obtain⟨u',r',q⟩:=hl j y v' g C U;show⟨u',r',?_⟩;rcases q with⟨k,e⟩ | ⟨k,c,e,z⟩
    .show .inl ⟨k,?_⟩;have:y≠x:=fun e=>G (qbE hN g (e ▸ O));simp[this,e]
    .show .inr ⟨k,c,e,z.sameBut f (cne y c e)⟩
  .obtain⟨T,z⟩:=I.cell y c e;show⟨T,z.sameBut f (cne y c e)⟩
  .obtain⟨e,n,ne,nf,d⟩:=I.pin p hp;show⟨(f.2 p.1 ne).trans e,n,ne,nf,d⟩
 .have F:X.fn x=true:=by
   rcases hf with z | z
   .show z
   .rw [z] at hk;cases hk
  obtain⟨c,hc⟩:=I.ok.has x (.inl hk);obtain⟨T,z⟩:=I.cell x c hc;show wpAny_storeName_cell I.ok.kind hk hc z (fun h' J f=>?_);obtain⟨oc,P,R⟩:=id z;show h { s with heap:=h' } ⟨I.ok,I.os,I.bare,⟨fun b o e n hb t=>?_,fun b o e n hb t=>?_,I.base.free,fun b o e t=>?_,I.base.tups,I.base.frzs,I.base.tbls⟩,⟨m,W.sameBut f (Yd (cne x c hc)),fun j y v' g C U=>?_⟩,fun y S e=>?_,I.free,I.freeC,fun p hp=>?_,l ⟨oc,P,I.freeC x c hc⟩ f,by simpa using I.len⟩ ⟨c,f,.inr hc⟩
  .show(f.2 b (yJ (yj (yI e) (I.ok.cab x c F hc)))).trans (I.base.keep b o e n hb t)
  .obtain⟨sl,g⟩:=I.base.slot b o e n hb t;show⟨sl,(f.2 b (yJ (yj (yI e) (I.ok.cab x c F hc)))).trans g⟩
  .obtain⟨o',g⟩:=I.base.there b o e t;show⟨o',(f.2 b (yJ (yj (yI e) (I.ok.cab x c F hc)))).trans g⟩
  .by_cases G:j=i
   .subst G;rw[O] at g;cases g;rw[Xe D] at C;cases C;show⟨u,r,.inr ⟨.inl hk,c,hc,J⟩⟩
   .rw [xr (Yd G)] at C;obtain⟨u',r',q⟩:=hl j y v' g C U;show⟨u',r',?_⟩;rcases q with q | ⟨k,S,e,z'⟩
    .show .inl q
    .show .inr ⟨k,S,e,z'.sameBut f ?_⟩;rintro rfl;show G (qbE hN g (I.ok.inj _ _ _ e hc ▸ O))
  .by_cases K:S=c
   .subst K;show⟨_,J⟩
   .obtain⟨w2,z2⟩:=I.cell y S e;show⟨w2,z2.sameBut f K⟩
  .obtain⟨e,n,ne,nf,d⟩:=I.pin p hp;show⟨(f.2 p.1 ?_).trans e,n,ne,nf,d⟩;intro q;rw[q,P] at e;have q':oc=p.2:=ym e;show d T (by rw[<- q'];show R)
theorem qaU{Q:Unit->Shared->Prop}(I:Inv X pins σ H s)(b:X.N.Nodup)(d:X.N[i]?=some x)(e:Loc X.env.scope x)(r:RelV v u)
  (h:∀ s',Inv X pins (σ.set i (some v)) H s'->Q () s') (c:X.fn x=true\/X.env.scope.names.lookup x=some .local:=by first | show .inl rfl | show .inr rfl | assumption):wpAny M A (storeName X.env x u) Q E s:=
 qb0 I b d e r (fun s' a _=>h s' a) c
theorem Inv.call'(I:Inv X pins σ H s)(g:s'.os=s.os)(u:Un (frs X.stack) ch H H' s.heap s'.heap)(d:HOk X.prog X.w H' s'.heap)(f:AllBare s'.gens)
  (a:∀ b∈ch,(b∈X.ex\/X.s₀.heap.objs.size<=b)/\b≠X.env.locals/\(∀ x c,X.env.cells.lookup x=some c->c≠b)/\∀ p∈X.pn++pins,p.1≠b):Inv X pins σ H' s':=by
 obtain⟨h',g',d',t',h⟩:=s';have e:h=s.os:=g;subst e;show I.call (g':=g') (t':=t') (d':=d') u d f a
end
abbrev XK:=Value->Option Addr->Hp->Prop
noncomputable abbrev St:=List (Option V)
abbrev VK:=V->Hp->Prop
abbrev TE:=St->Hp->VK->Prop
abbrev TT:=St->Hp->(Bool->Hp->Prop)->Prop
abbrev TA:=St->Hp->(List V->Hp->Prop)->Prop
structure Ends where
 nx:St->Hp->Prop
 rt:VK
 bk:St->Hp->Prop:=fun _ _=>False
 ct:St->Hp->Prop:=fun _ _=>False
abbrev TS:=Ends->St->Hp->Prop
def EP(X:Cx)(pins:List (Addr×Obj))(σ:St)(Q:VK)(u:Value)(s':Shared):Prop:=∃ v H',Inv X pins σ H' s'/\RelV v u/\Q v H'
def TP(X:Cx)(pins:List (Addr×Obj))(σ:St)(Q:Bool->Hp->Prop)(b:Bool)(s':Shared):Prop:=∃ H',Inv X pins σ H' s'/\Q b H'
def AP(X:Cx)(pins:List (Addr×Obj))(σ:St)(Q:List V->Hp->Prop)(us:List Value)(s':Shared):Prop:=∃ vs H',Inv X pins σ H' s'/\Vals vs us/\Q vs H'
def SP(X:Cx)(pins:List (Addr×Obj))(D:Ends)(f:Flow)(s':Shared):Prop:=
 match f with
 | .next=>∃ a H',Inv X pins a H' s'/\D.nx a H'
 | .brk=>∃ a H',Inv X pins a H' s'/\D.bk a H'
 | .cont=>∃ a H',Inv X pins a H' s'/\D.ct a H'
 | .ret u=>∃ v a H',Inv X pins a H' s'/\RelV v u/\D.rt v H'
def PE(X:Cx)(e:Expr)(t:TE):Prop:=
 ∀(pins:List (Addr×Obj)) (s:Shared) (σ:St) (H:Hp) (Q:VK),Inv X pins σ H s->t σ H Q->wpAny (model X.prog X.w) X.A (eval e X.env) (EP X pins σ Q) X.xe s
def PT(X:Cx)(e:Expr)(t:TT):Prop:=
 ∀(pins:List (Addr×Obj)) (s:Shared) (σ:St) (H:Hp) (Q:Bool->Hp->Prop),Inv X pins σ H s->t σ H Q->wpAny (model X.prog X.w) X.A (isTrue e X.env (eval e X.env)) (TP X pins σ Q) X.xe s
def PW(X:Cx)(e:Expr)(t:TT):Prop:=
 ∀(a:Sem Value) (pins:List (Addr×Obj)) (s:Shared) (σ:St) (H:Hp) (Q:Bool->Hp->Prop),Inv X pins σ H s->t σ H Q->wpAny (model X.prog X.w) X.A (isTrue e X.env a) (TP X pins σ Q) X.xe s
theorem PW.pt{t:TT}(h:PW X e t):PT X e t:=h _
def PA(X:Cx)(es:List Expr)(t:TA):Prop:=
 ∀(pos:Pos) (pins:List (Addr×Obj)) (s:Shared) (σ:St) (H:Hp) (Q:List V->Hp->Prop),Inv X pins σ H s->t σ H Q->wpAny (model X.prog X.w) X.A (spliced (backTo pos (starEach es X.env))) (AP X pins σ Q) X.xe s
def PS(X:Cx)(st:Stmt)(t:TS):Prop:=
 ∀(pins:List (Addr×Obj)) (s:Shared) (σ:St) (H:Hp) (D:Ends),Inv X pins σ H s->t D σ H->wpAny (model X.prog X.w) X.A (exec st X.env) (SP X pins D) X.xe s
def PSs(X:Cx)(st:List Stmt)(t:TS):Prop:=
 ∀(pins:List (Addr×Obj)) (s:Shared) (σ:St) (H:Hp) (D:Ends),Inv X pins σ H s->t D σ H->wpAny (model X.prog X.w) X.A (execs st X.env) (SP X pins D) X.xe s
theorem thn{t:Sem α}{Q b:α->Shared->Prop}(h:wpAny M A t Q E s)(c:∀ a s,Q a s->b a s):wpAny M A t b E s:=YE h c fun _ _ x=>x
section
variable{X:Cx}
def qeY(i:Nat):TE:=fun σ H Q=>∃ v,σ[i]?=some (some v)/\Q v H
def tC(v:V):TE:=fun _ H Q=>Q v H
theorem pe_var(g:X.N[i]?=some x)(hv:Vis X.env.scope x)(f:(x==("__debug__":Str))=false:=by decide)(d:(x==("__classdict__":Str))=false:=by decide):PE X (.Name x pos) (qeY i):=by
 intro pins s σ H Q I h;obtain⟨v,e,h⟩:=h;obtain⟨m,n,hl⟩:=I.loc;obtain⟨u,r,l⟩:=hl i x v g e hv;have b:EP X pins σ Q u s:=⟨v,H,I,r,h⟩;rcases l with⟨hk,j⟩ | ⟨hk,c,hc,a⟩
 .show wpAny_Name (wpAny_loadName_local I.ok.kind hk n j b) f
 .rcases hk with hk | hk
  .show wpAny_Name (wpAny_loadName_cell I.ok.kind hk hc a b) f
  .show wpAny_Name (wpAny_loadName_free I.ok.kind hk hc a b d) f
theorem qg{i j pos}:PE X (.Constant (.int i) j pos) (tC (.int i)):=fun _ _ _ H _ I h=>wpAny_Constant_int ⟨.int i,H,I.tok _,⟨_,rfl⟩,h⟩
theorem zi{b j pos}:PE X (.Constant (.bool b) j pos) (tC (.bl b)):=fun _ _ _ H _ I h=>Constant_bool ⟨.bl b,H,I,rfl,h⟩
theorem zk{j pos}:PE X (.Constant .none j pos) (tC .non):=fun _ _ _ H _ I h=>Constant_none ⟨.non,H,I,rfl,h⟩
theorem jH{x j pos}:PE X (.Constant (.str x) j pos) (tC (.str x)):=fun _ _ _ H _ I h=>Calls.Constant_str ⟨.str x,H,I.tok _,⟨_,rfl⟩,h⟩
def Gl(X:Cx)(x:Str):Prop:=X.env.kindOf x=some .globalImplicit
theorem qak{Q:Value->Shared->Prop}(I:Inv X pins σ H s)(b:Gl X x)(c:X.mg x=some u)(h:Q u s)
  (a:(x==("__debug__":Str))=false:=by decide):wpAny (model X.prog X.w) X.A (eval (.Name x pos) X.env) Q E s:=
 Calls.Name_function_global I.ok.kind b (Calls.loadGlobal_global (by rw[I.ok.glob];show I.mod.glob.keeps I.bk) c h) a
theorem qaR{Q:Value->Shared->Prop}(I:Inv X pins σ H s)(c:Gl X x)(d:X.mg x=none)(hv:bootBuiltins x=some u)(h:Q u s)
  (e:x≠"__name__":=by decide) (b:(x==("__debug__":Str))=false:=by decide):wpAny (model X.prog X.w) X.A (eval (.Name x pos) X.env) Q E s:=by
 obtain⟨f,h1,a⟩:=I.mod.blt;show Calls.Name_function_global I.ok.kind c (Calls.loadGlobal_builtin (by rw[I.ok.glob];show I.mod.glob.keeps I.bk) d (by rw[I.ok.blt];show h1.keeps I.bk) ((a x e).trans hv) h) b
theorem qdo(b:Gl X x)(c:X.mg x=some u)(r:RelV v u)(a:(x==("__debug__":Str))=false:=by decide):PE X (.Name x pos) (tC v):=
 fun _ _ _ H _ I h=>qak I b c ⟨v,H,I,r,h⟩ a
theorem j3(b:Gl X x)(c:X.mg x=none)(hv:bootBuiltins x=some u)(r:RelV v u)(d:x≠"__name__":=by decide)(a:(x==("__debug__":Str))=false:=by decide):PE X (.Name x pos) (tC v):=
 fun _ _ _ H _ I h=>qaR I b c hv ⟨v,H,I,r,h⟩ d a
variable{a b:Expr}{ta tb:TE}{pos:Pos}
def tB(t:TE):TT:=fun σ H Q=>t σ H fun x a=>∃ c,x=.bl c/\Q c a
theorem qX(h:PE X e t)(f:∀ a,isTrue e X.env a=(do let v <- a;standAt e.pos;holding [v] (truthy v)):=by intro _;rfl):PT X e (tB t):=by
 intro pins s σ H Q I hw;show isTrue_plain (thn (h pins s σ H _ I hw) fun v j ⟨x,b,c,i,g⟩=>?_) (f _);obtain⟨d,rfl,q⟩:=g;cases i;show xu ⟨b,c,q⟩
variable{tA tB':TT}{rest:List Expr}
def qfM(t u:TT):TT:=fun σ H Q=>t σ H fun c a=>if c=true then u σ a Q else Q false a
def tOr(t u:TT):TT:=fun σ H Q=>t σ H fun c a=>if c=true then Q true a else u σ a Q
def qfN(t:TT):TT:=fun σ H Q=>t σ H fun c a=>Q (!c) a
theorem qal(b:PT X a tA):PW X (.BoolOp .And [a] pos) tA:=by
 intro f pins s σ H Q I h;show isTrue_and (thn (b pins s σ H Q I h) fun c d e=>?_)
 cases c with
 | true=>show isTrue_and_nil e
 | false=>show e
theorem qaj(b:PT X a tA):PW X (.BoolOp .Or [a] pos) tA:=by
 intro f pins s σ H Q I h;show isTrue_or (thn (b pins s σ H Q I h) fun c d e=>?_)
 cases c with
 | false=>show isTrue_or_nil e
 | true=>show e
theorem qaS(g:PT X a tA)(hb:PW X (.BoolOp .And (b::rest) pos) tB'):PW X (.BoolOp .And (a::b::rest) pos) (qfM tA tB'):=by
 intro j pins s σ H Q I h;show isTrue_and (thn (g pins s σ H _ I h) fun c i ⟨d,e,f⟩=>?_)
 cases c with
 | true=>show hb j pins i σ d Q e f
 | false=>show⟨d,e,f⟩
theorem qar(g:PT X a tA)(hb:PW X (.BoolOp .Or (b::rest) pos) tB'):PW X (.BoolOp .Or (a::b::rest) pos) (tOr tA tB'):=by
 intro j pins s σ H Q I h;show isTrue_or (thn (g pins s σ H _ I h) fun c i ⟨d,e,f⟩=>?_)
 cases c with
 | true=>show⟨d,e,f⟩
 | false=>show hb j pins i σ d Q e f
theorem jm(d:PT X a tA):PT X (.UnaryOp .Not a pos) (qfN tA):=by
 intro pins s σ H Q I h;show isTrue_not (d pins s σ H (fun c b=>Q (!c) b) I h)
def qeZ(ta tb:TE):TE:=fun σ H Q=>ta σ H fun x a=>∃ c,x=.bl c/\if c=true then tb σ a Q else Q (.bl false) a
def qfO(ta tb:TE):TE:=fun σ H Q=>ta σ H fun x a=>∃ c,x=.bl c/\if c=true then Q (.bl true) a else tb σ a Q
def tNotV(ta:TE):TE:=fun σ H Q=>ta σ H fun x a=>∃ c,x=.bl c/\Q (.bl (!c)) a
theorem qa4{op}(h:PE X a t):PE X (.BoolOp op [a] pos) t:=fun pins s σ H Q I hw=>BoolOp_one (h pins s σ H Q I hw)
theorem qbo(g:PE X a ta)(hb:PE X (.BoolOp .And (b::rest) pos) tb):PE X (.BoolOp .And (a::b::rest) pos) (qeZ ta tb):=by
 intro pins s σ H Q I h;show BoolOp_and (thn (g pins s σ H _ I h) fun v j ⟨x,e,f,i,d⟩=>?_);obtain⟨c,rfl,d⟩:=d;cases i;show xu ?_
 cases c with
 | true=>show hb pins j σ e Q f d
 | false=>show⟨.bl false,e,f,rfl,d⟩
theorem pe_or(g:PE X a ta)(hb:PE X (.BoolOp .Or (b::rest) pos) tb):PE X (.BoolOp .Or (a::b::rest) pos) (qfO ta tb):=by
 intro pins s σ H Q I h;show BoolOp_or (thn (g pins s σ H _ I h) fun v j ⟨x,e,f,i,d⟩=>?_);obtain⟨c,rfl,d⟩:=d;cases i;show xu ?_
 cases c with
 | false=>show hb pins j σ e Q f d
 | true=>show⟨.bl true,e,f,rfl,d⟩
def tIf(t:TT)(ta tb:TE):TE:=fun σ H Q=>t σ H fun c a=>if c=true then ta σ a Q else tb σ a Q
theorem qcO(hc:PT X c tA)(j:PE X a ta)(hb:PE X b tb):PE X (.IfExp c a b pos) (tIf tA ta tb):=by
 intro pins s σ H Q I h;show wpAny_IfExp (thn (hc pins s σ H _ I h) fun d i ⟨e,f,g⟩=>?_)
 cases d with
 | true=>show j pins i σ e Q f g
 | false=>show hb pins i σ e Q f g
end
def SqL(K:yg)(H:Hp)(a:Addr)(xs:List V):Prop:=
 Rd H a (.lst xs) \/
  ∃(o:Obj) (b:Array Value) (n:Nat),K.lookup a=some o/\o.cls=.type "list"/\o.dict=none/\o.data=.seq b n/\b.size<=sizeLine/\Vals xs b.toList
def SqT(K:yg)(H:Hp)(a:Addr)(xs:List V):Prop:=
 Rd H a (.tup xs) \/
  ∃(o:Obj) (b:Array Value) (n:Nat),K.lookup a=some o/\o.cls=.type "tuple"/\o.data=.seq b n/\b.size<=sizeLine/\Vals xs b.toList
noncomputable def absV:Value->Option V
 | .none=>some .non
 | .bool b=>some (.bl b)
 | .int i _=>some (.int i)
 | .str x _=>some (.str x)
 | .bytes b _=>some (.byt b)
 | .float b _=>some (.flt b)
 | .ref a=>some (.ref a)
 | .type n=>some (.ty n)
 | _=>none
theorem RelV.abs{x:V}(r:RelV x u):absV u=some x:=by
 cases x with
 | non=>cases r;rfl
 | bl _=>cases r;rfl
 | int _=>obtain⟨t,rfl⟩:=r;rfl
 | str _=>obtain⟨t,rfl⟩:=r;rfl
 | byt _=>obtain⟨t,rfl⟩:=r;rfl
 | flt _=>obtain⟨t,rfl⟩:=r;rfl
 | ref _=>cases r;rfl
 | ty _=>cases r;rfl
theorem RelV.inj{x:V}(r:RelV x u)(q:RelV y u):x=y:=ym (r.abs.symm.trans q.abs)
theorem Vals.inj:∀{xs ys:List V} {us:List Value},Vals xs us->Vals ys us->xs=ys
 | _,_,_,.nil,.nil=>rfl
 | _,_,_,.cons r t,.cons r' t'=>by rw[r.inj r',Vals.inj t t']
section
variable{X:Cx}{pins:List (Addr×Obj)}{σ:St}{H:Hp}{s:Shared}{a:Addr}{xs ys:List V}
theorem SqL.of{K:yg}(h:H a=some (.lst xs)):SqL K H a xs:=.inl (.inl h)
theorem SqT.of{K:yg}(h:H a=some (.tup xs)):SqT K H a xs:=.inl (.inl h)
theorem Inv.list(I:Inv X pins σ H s)(h:SqL X.K H a xs):∃ b:List Value,Vals xs b/\PlainL s.heap a b.toArray/\xs.length<=sizeLine:=by
 rcases h with h | ⟨o,b,n,hk,hc,hd,hs,hz,r⟩
 .obtain⟨z,b,n,r,e⟩:=h.ok I.hok;show⟨b,r,⟨_,n,e,rfl,rfl,rfl⟩,z⟩
 .show⟨b.toList,r,⟨o,n,I.kIn a o hk,hc,hd,by simpa using hs⟩,?_⟩;have e:=r.length;simp only[YV] at e;lk
theorem Inv.tuple(I:Inv X pins σ H s)(h:SqT X.K H a xs):∃ b:List Value,Vals xs b/\IsTup s.heap a b.toArray/\xs.length<=sizeLine:=by
 rcases h with h | ⟨o,b,n,hk,hc,hs,hz,r⟩
 .obtain⟨z,b,r,p⟩:=h.ok I.hok;show⟨b,r,p,z⟩
 .show⟨b.toList,r,⟨o,I.kIn a o hk,hc,n,by simpa using hs⟩,?_⟩;have e:=r.length;simp only[YV] at e;lk
theorem Inv.list_inj(I:Inv X pins σ H s)(h:SqL X.K H a xs)(h':SqL X.K H a ys):xs=ys:=by
 obtain⟨b,r,⟨o,n,e,_,_,d⟩,_⟩:=I.list h;obtain⟨its',r',⟨g,f,c,_,_,d'⟩,_⟩:=I.list h';rw[e] at c;cases c;rw[d] at d'
 injection d' with d1 _
 have:b=its':=by simpa using congrArg Array.toList d1
 subst this;show r.inj r'
theorem Inv.tuple_inj(I:Inv X pins σ H s)(h:SqT X.K H a xs)(h':SqT X.K H a ys):xs=ys:=by
 obtain⟨b,r,⟨o,e,_,n,d⟩,_⟩:=I.tuple h;obtain⟨its',r',⟨g,c,_,f,d'⟩,_⟩:=I.tuple h';rw[e] at c;cases c;rw[d] at d'
 injection d' with d1 _
 have:b=its':=by simpa using congrArg Array.toList d1
 subst this;show r.inj r'
end
noncomputable abbrev Cx.wish(X:Cx)(E:Value->Shared->Prop):Cx:={ X with xe:=E }
noncomputable abbrev Cx.nox(X:Cx):Cx:=X.wish fun _ _=>False
theorem Cx.Ok.wish(ok:X.Ok)(E:Value->Shared->Prop):(X.wish E).Ok:=
 ⟨ok.mod,ok.kind,ok.glob,ok.blt,ok.above,ok.inj,ok.has,ok.cab,ok.hd,ok.frames,ok.stk,ok.exf,ok.bs,ok.bsz,ok.noex,ok.exfs,ok.funs,ok.frf⟩
theorem Cx.Ok.unwish(ok:(X.wish E).Ok):X.Ok:=
 ⟨ok.mod,ok.kind,ok.glob,ok.blt,ok.above,ok.inj,ok.has,ok.cab,ok.hd,ok.frames,ok.stk,ok.exf,ok.bs,ok.bsz,ok.noex,ok.exfs,ok.funs,ok.frf⟩
section
variable{X:Cx}{pins:List (Addr×Obj)}{σ:St}{H:Hp}{s:Shared}{E:Value->Shared->Prop}
theorem Inv.wish(I:Inv X pins σ H s)(E:Value->Shared->Prop):Inv (X.wish E) pins σ H s:=⟨I.ok.wish E,I.os,I.bare,I.base,I.loc,I.cell,I.free,I.freeC,I.pin,I.hok,I.len⟩
theorem Inv.unwish(I:Inv (X.wish E) pins σ H s):Inv X pins σ H s:=⟨I.ok.unwish,I.os,I.bare,I.base,I.loc,I.cell,I.free,I.freeC,I.pin,I.hok,I.len⟩
theorem SP.unwish{f:Flow}(h:SP (X.wish E) pins D f s'):SP X pins D f s':=by
 cases f with
 | next=>obtain⟨a,H',I,q⟩:=h;show⟨a,H',I.unwish,q⟩
 | brk=>obtain⟨a,H',I,q⟩:=h;show⟨a,H',I.unwish,q⟩
 | cont=>obtain⟨a,H',I,q⟩:=h;show⟨a,H',I.unwish,q⟩
 | ret u=>obtain⟨v,a,H',I,r,q⟩:=h;show⟨v,a,H',I.unwish,r,q⟩
theorem PSs.nox{st:List Stmt}{t:TS}(h:PSs X.nox st t):PSs X st t:=fun pins s σ H D I hw =>
 YE (h pins s σ H D (I.wish _) hw) (fun _ _ q=>q.unwish) fun _ _ z=>False.elim z
end
section
variable{X:Cx}{st:Stmt}{rest:List Stmt}{t u:TS}{e:Expr}{te:TE}{pos:Pos}
def qe0:TS:=fun D σ H=>D.nx σ H
def qfs(t u:TS):TS:=fun D σ H=>t { D with nx:=u D } σ H
theorem qq:PSs X [] qe0:=fun _ _ σ H _ I h=>X9 ⟨σ,H,I,h⟩
theorem qc(h1:PS X st t)(c:PSs X rest u):PSs X (st::rest) (qfs t u):=by
 intro pins s σ H D I h;show wpAny_execs_cons (thn (h1 pins s σ H { D with nx:=u D } I h) fun f d q=>?_)
 cases f with
 | next =>
  obtain⟨a,H',b,q⟩:=q;show c pins d a H' D b q
 | ret v=>show q
 | brk=>show q
 | cont=>show q
theorem qe(h1:PS X st t):PSs X [st] t:=by
 intro pins s σ H D I h;show wpAny_execs_cons (thn (h1 pins s σ H D I h) fun f a q=>?_)
 cases f with
 | next=>show X9 q
 | ret v=>show q
 | brk=>show q
 | cont=>show q
theorem Inv.quiet(I:Inv X pins σ H s):interactive X.env=false:=by simp[interactive,I.ok.kind]
def qe1(te:TE):TS:=fun D σ H=>te σ H fun _ a=>D.nx σ a
theorem qQ(c:PE X e te)(d:swapsWith e none pos.line X.env=pure false:=by rfl):PS X (.Expr e pos) (qe1 te):=by
 intro pins s σ H D I h;show wpAny_Expr_any (thn (c pins s σ H _ I h) fun v i ⟨x,a,b,g,f⟩=>⟨σ,a,b,f⟩) I.quiet d
def qfP(te:TE):TS:=fun D σ H=>te σ H D.rt
theorem qo(c:PE X e te):PS X (.Return (some e) pos) (qfP te):=by
 intro pins s σ H D I h;show wpAny_Return_some (thn (c pins s σ H _ I h) fun v g ⟨x,a,b,f,d⟩=>⟨x,σ,a,b,f,d⟩)
def qe2:TS:=fun D _ H=>D.rt .non H
theorem ps_retN:PS X (.Return none pos) qe2:=fun _ _ σ H _ I h=>wpAny_Return_none ⟨.non,σ,H,I,rfl,h⟩
def qfQ(c:TT)(t u:TS):TS:=fun D σ H=>c σ H fun b a=>if b=true then t D σ a else u D σ a
theorem qM{a b:List Stmt}(hc:PT X c tc)(j:PSs X a t)(hb:PSs X b u):PS X (.If c a b pos) (qfQ tc t u):=by
 intro pins s σ H D I h;show wpAny_If (thn (hc pins s σ H _ I h) fun d i ⟨e,f,g⟩=>?_)
 cases d with
 | true=>show j pins i σ e D f g
 | false=>show hb pins i σ e D f g
def tNever:TS:=fun _ _ _=>False
theorem jK:PS X st tNever:=fun _ _ _ _ _ _ h=>h.elim
end
abbrev TG:=V->St->Hp->(St->Hp->Prop)->Prop
abbrev TGs:=List V->St->Hp->(St->Hp->Prop)->Prop
def PG(X:Cx)(a:Expr)(t:TG):Prop:=
 ∀(pins:List (Addr×Obj)) (s:Shared) (σ:St) (H:Hp) (v:V) (u:Value) (Q:St->Hp->Prop),Inv X pins σ H s->RelV v u->t v σ H Q ->
  wpAny (model X.prog X.w) X.A (assign a X.env u) (fun _ s'=>∃ b H',Inv X pins b H' s'/\Q b H') X.xe s
def PGs(X:Cx)(b:List Expr)(t:TGs):Prop:=
 ∀(pins:List (Addr×Obj)) (s:Shared) (σ:St) (H:Hp) (vs:List V) (us:List Value) (Q:St->Hp->Prop),Inv X pins σ H s->Vals vs us->t vs σ H Q ->
  wpAny (model X.prog X.w) X.A (assignInOrder ((assignEach b X.env).map (·.2)) us) (fun _ s'=>∃ a H',Inv X pins a H' s'/\Q a H') X.xe s
abbrev qe3:=V->V->V->Hp->(Hp->Prop)->Prop
def qfy(X:Cx)(t:qe3):Prop:=
 ∀(pins:List (Addr×Obj)) (s:Shared) (σ:St) (H:Hp) (o i v:V) (b a u:Value) (Q:Hp->Prop),Inv X pins σ H s->RelV o b->RelV i a->RelV v u->t o i v H Q ->
  wpAny (model X.prog X.w) X.A (setItem b a u) (fun _ s'=>∃ H',Inv X pins σ H' s'/\Q H') X.xe s
section
variable{X:Cx}{pos:Pos}
def qbk(i:Nat):TG:=fun v σ H Q=>Q (σ.set i (some v)) H
theorem qk(b:X.N.Nodup)(d:X.N[i]?=some x)(e:Loc X.env.scope x)(c:X.fn x=true\/X.env.scope.names.lookup x=some .local:=by first | show .inl rfl | show .inr rfl | assumption):PG X (.Name x pos) (qbk i):=by
 intro pins s σ H v u Q I r h;show wpAny_assign_Name (qaU I b d e r (fun s' a=>⟨_,H,a,h⟩) c)
def qfR:TGs:=fun vs σ H Q=>vs=[]/\Q σ H
def qeE(t:TG)(u:TGs):TGs:=fun vs σ H Q=>∃ v r,vs=v::r/\t v σ H fun a H'=>u r a H' Q
theorem qaM:PGs X [] qfR:=by
 intro pins s σ H vs us Q I r h;obtain⟨e,h⟩:=h;subst e;cases r;show assignInOrder_nil ⟨σ,H,I,h⟩
theorem jB{t:TG}{u:TGs}(h1:PG X e t)(f:PGs X es u)
  (g:(assignEach (e::es) X.env).map (·.2)=assign e X.env::(assignEach es X.env).map (·.2):=by rfl):PGs X (e::es) (qeE t u):=by
 intro pins s σ H vs us Q I r h;obtain⟨v,l,d,h⟩:=h;subst d
 cases r with
 | cons r rr =>
  rw[g];show assignInOrder_cons (thn (h1 pins s σ H _ _ _ I r h) fun _ j ⟨a,b,c,i⟩=>?_);show f pins j a b _ _ Q c rr i
def qft(K:yg)(n:Nat)(t:TGs):TG:=fun v σ H Q=>∃ a xs,v=.ref a/\SqT K H a xs/\xs.length=n/\t xs σ H Q
theorem qbp{k:Nat}{t:TGs}(hc:X.calm=true)(h:PGs X es t)
  (i:(assignEach es X.env).length=n:=by rfl) (c:(assignEach es X.env).findIdx? (·.1)=none:=by rfl):PG X (.Tuple es k pos) (qft X.K n t):=by
 intro pins s σ H v u Q I r hw;obtain⟨a,xs,g,j,hl,hw⟩:=hw;subst g;cases r;obtain⟨p,d,l,hz⟩:=I.tuple j;show assign_Tuple_tuple (I.ok.hd hc) l (by simp[i,<- hl,d.length]) c fun h' m=>?_;have f:Inv X pins σ H { s with heap:=h' }:=I.kept (t':=s.toks) fun b o e=>m b o (yJ (yI e)) e;show h pins _ σ H xs _ Q f (by simpa using d) hw
def qfS(e d:TE)(t:qe3):TG:=fun v σ H Q=>e σ H fun o a=>d σ a fun i b=>t o i v b fun c=>Q σ c
theorem jI{o i:Expr}{d c:TE}{t:qe3}(q:PE X o d)(p:PE X i c)(w:qfy X t)
  (n:∀ v,assign (.Subscript o i pos) X.env v=(do
   let a <- holding [v] (eval o X.env);let b <- holding [v,a] (eval i X.env)
   standAt pos
   holding [v,a,b] (setItem a b v)
   release [v,a,b] []):=by intro _;rfl):PG X (.Subscript o i pos) (qfS d c t):=by
 intro pins s σ H v u Q I r h;rw[n];show yr (Yn (thn (q pins s σ H _ I h) fun a E ⟨x,e,j,C,z⟩=>?_));show yr (Yn (thn (p pins E σ e _ j z) fun b F ⟨y,f,l,D,A⟩=>?_));show yr (XD (yr (Yn (thn (w pins F σ f x y v a b u _ l C D r A) fun _ G ⟨g,m,B⟩=>?_))));show wpAny_release ⟨σ,g,m,B⟩
def qeV(te:TE)(g:TG):TS:=fun D σ H=>te σ H fun x a=>g x σ a D.nx
theorem jw(c:PE X e te)(d:PG X tg g)(f:swapsWithSole [tg] e pos.line X.env=pure false:=by rfl)(hw:swappedStores [tg] e X.env=pure none:=by rfl)
  (h1:(assignEach [tg] X.env).map (·.2)=[assign tg X.env]:=by rfl):PS X (.Assign [tg] e pos) (qeV te g):=by
 intro pins s σ H D I h;show wpAny_Assign_stores (thn (c pins s σ H _ I h) fun v l ⟨x,a,b,j,i⟩=>?_) f hw;rw[h1];show thn (d pins l σ a x v _ b j i) fun _ m q=>q
theorem qm{a:Pos}(f:X.N.Nodup)(l:X.N[i]?=some x)(n:Loc X.env.scope x)(g:PE X e te)(m:swapsWith e (some (.Name x a)) pos.line X.env=pure false:=by rfl)(j:X.fn x=true\/X.env.scope.names.lookup x=some .local:=by first | show .inl rfl | show .inr rfl | assumption) :
  PS X (.Assign [.Name x a] e pos) (qeV te (qbk i)):=by
 intro pins s σ H D I h;show wpAny_Assign_Name (thn (g pins s σ H _ I h) fun v q ⟨y,b,c,p,o⟩=>?_) m;show qaU c f l n p (fun r d=>⟨_,b,d,o⟩) j
end
section
variable{X:Cx}{pos:Pos}
def tWhile(c:TT)(tb:TS):TS:=fun D σ H=>∃ W:Nat->St->Hp->Prop,(∃ m,W m σ H)/\∀ m σ H,W m σ H ->
 c σ H fun b d=>if b=true then ∃ N:St->Hp->Prop,(∀ a H',N a H'->∃ e,e<m/\W e a H')/\tb { D with nx:=N,ct:=N,bk:=D.nx } σ d else D.nx σ d
theorem qaV(y:PassesOwn (model X.prog X.w) X.A X.env X.xe)(hc:PT X c tc)(hb:PSs X body tb):PS X (.While c body [] pos) (tWhile tc tb):=by
 intro pins s σ H D I h;obtain⟨W,⟨B,F⟩,turn⟩:=h;show wpAny_While (codeAny_whileLoop (fun n s'=>∃ g H',Inv X pins g H' s'/\W n g H') ?_ B ⟨σ,H,I,F⟩);rintro n C ⟨d,r,z,G⟩;show xN y (thn (hc pins C d r _ z (turn n d r G)) fun b E ⟨t,u,i⟩=>?_)
 cases b with
 | true =>
  obtain⟨N,x,i⟩:=i;rw[yG rfl];show xN y (thn (hb pins E d t _ u i) fun f J j=>?_)
  cases f with
  | next =>
   obtain⟨a,e,l,p⟩:=j;obtain⟨o,m,q⟩:=x a e p;show⟨o,m,a,e,l,q⟩
  | cont =>
   obtain⟨a,e,l,p⟩:=j;obtain⟨o,m,q⟩:=x a e p;show⟨o,m,a,e,l,q⟩
  | brk=>show j
  | ret v=>show j
 | false =>
  rw[yE Yo];show X9 ⟨d,t,u,i⟩
end
structure It where
 go:Nat->Hp->Prop
 yld:Nat->Hp->V->Hp->Prop
 stop:Nat->Hp->Prop
def qcv(X:Cx)(pins:List (Addr×Obj))(H:Hp)(b:Addr):Prop:=
 H b=none/\b≠X.env.locals/\b∉X.fs/\(b∈X.ex\/X.s₀.heap.objs.size<=b)/\(∀ x c,X.env.cells.lookup x=some c->c≠b)/\∀ p∈X.pn++pins,p.1≠b
theorem Inv.fpOk{H':Hp}(I:Inv X pins σ H s)(hb:s.heap.objs.size<=b)(a:H' b=none):qcv X pins H' b:=by
 show⟨a,Yg (yj I.lt hb),I.nofs hb,.inr (yi I.sz hb),fun x c e z=>?_,fun p d z=>?_⟩
 .obtain⟨v,q⟩:=I.cell x c e;show absurd (yj q.lt (by rw[z];show hb)) (Yu _)
 .show absurd (yj (yI (I.pin p d).1) (by rw[z];show hb)) (Yu _)
structure Turn(P:Program)(w:World)(K:yg)(tg:Expr)(J:It)(fp:LQ)(it:Addr)(tn:Nat->Heap->Prop):Prop where
 mem:it∈fp
 obj:∀ i h,tn i h->∀ b∈fp,∃ o,h.get? b=some o/\∀ v,o.data≠.cell v
 keep:∀ i h h',tn i h->(∀ b∈fp,∀ o,h.get? b=some o->h'.get? b=some o)->tn i h'
 item:∀(X:Cx),X.prog=P->X.w=w->X.K=K->X.calm=true->∀(i:Nat) (pins:List (Addr×Obj)) (s:Shared) (σ:St) (H:Hp) (E:Value->Shared->Prop),Inv X pins σ H s->(∀ b∈fp,qcv X pins H b)->tn i s.heap->J.go i H ->
  wpAny (model P w) X.A (pyNext (.ref it)) (fun r s1=>∃ u,r=some u /\
   wpAny (model P w) X.A (letOwnedTupleGo tg (.ref it) u) (fun _ s2=>∃ x H',Inv X pins σ H' s2/\RelV x u/\J.yld i H x H'/\tn (i+1) s2.heap/\∀ b∈fp,H' b=none) E s1) E s
 done:∀(X:Cx),X.prog=P->X.w=w->X.K=K->X.calm=true->∀(i:Nat) (pins:List (Addr×Obj)) (s:Shared) (σ:St) (H:Hp) (E:Value->Shared->Prop),Inv X pins σ H s->(∀ b∈fp,qcv X pins H b)->tn i s.heap->J.stop i H ->
  wpAny (model P w) X.A (pyNext (.ref it)) (fun r s1=>r=none/\Inv X pins σ H s1) E s
 self:∀(A:Around) (i:Nat) (s:Shared) (Q:Value->Shared->Prop) (E:Value->Shared->Prop),tn i s.heap->Q (.ref it) s->wpAny (model P w) A (pyIter (.ref it)) Q E s
abbrev TI:=St->Hp->(It->Hp->Prop)->Prop
def PIE(X:Cx)(pins:List (Addr×Obj))(σ:St)(tg:Expr)(R:It->Hp->Prop)(a:Value)(c:Shared):Prop:=
 ∃(it:Addr) (fp:LQ) (d:Nat->Heap->Prop) (J:It) (H':Hp),a=.ref it/\Inv X pins σ H' c/\Turn X.prog X.w X.K tg J fp it d/\d 0 c.heap/\(∀ b∈fp,qcv X pins H' b)/\R J H'
def PI(X:Cx)(tg a:Expr)(c:TI):Prop:=
 ∀(pins:List (Addr×Obj)) (s:Shared) (σ:St) (H:Hp) (R:It->Hp->Prop),Inv X pins σ H s->c σ H R ->
  wpAny (model X.prog X.w) X.A (eval a X.env) (fun v b=>wpAny (model X.prog X.w) X.A (pyIter v) (PIE X pins σ tg R) X.xe b) X.xe s
theorem qeF{o:Obj}{n:String}{vs:Array Value}{Q:Unit->Shared->Prop}(d:s.heap.get? it=some o)(hc:o.cls=.type n)(b:o.data=.fields vs)
    (c:["enumerate","zip","dict_itemiterator","dict_reverseitemiterator","odict_iterator","itertools.zip_longest","itertools.pairwise"].contains n=false) (a:Q () s):wpAny M A (letOwnedTupleGo tg (.ref it) u) Q E s:=by
  unfold letOwnedTupleGo;cases tg<;>first
    | show yw a
    | (cases u<;>first
        | show yw a
        | (show yr (wpAny_load d ?_)
           rw[hc,b];show wpAny M A (if (["enumerate","zip","dict_itemiterator","dict_reverseitemiterator","odict_iterator","itertools.zip_longest","itertools.pairwise"].contains n&&vs[0]?==some (rawInt _))=true then _ else _) Q E s;rw[yE (by intro h;rw[c,Bool.false_and] at h;cases h)];show yw a))
noncomputable def Itl(K:yg)(a:Addr):It:=
 ⟨fun i H=>∃ xs x,SqL K H a xs/\xs[i]?=some x,fun i H x H'=>H'=H/\∀ xs,SqL K H a xs->xs[i]?=some x,fun i H=>∃ xs,SqL K H a xs/\xs.length<=i⟩
noncomputable def Itt(K:yg)(a:Addr):It:=
 ⟨fun i H=>∃ xs x,SqT K H a xs/\xs[i]?=some x,fun i H x H'=>H'=H/\∀ xs,SqT K H a xs->xs[i]?=some x,fun i H=>∃ xs,SqT K H a xs/\xs.length<=i⟩
noncomputable def Itr(lo:Int)(n:Nat):It:=⟨fun i _=>i<n,fun i H x H'=>H'=H/\x=.int (lo+i),fun i _=>n<=i⟩
theorem qb1{K:yg}(a it:Addr):Turn P w K tg (Itl K a) [it] it (fun i h=>h.IsListIter it a i) where
 mem:=by simp
 obj:=fun i h st b hb=>by
  have e:b=it:=by simpa using hb
  subst e;obtain⟨o,e,c,d⟩:=st;show⟨o,e,fun v z=>by rw[d] at z;cases z⟩
 keep:=fun i h h' st k=>st.at fun o e=>k it (by simp) o e
 item:=by
  intro X y hw t hc i pins s σ H E I g st A;subst y hw t;obtain⟨xs,x,j,B⟩:=A;obtain⟨C,D,p,hz⟩:=I.list j;obtain⟨u,L,N⟩:=D.get B;obtain⟨l,m,J,n,q,r⟩:=g it (by simp);show wpAny_pyNext_list_item st p.isList (x:=u) (by simpa using L) fun h' f O=>?_;have F:Inv X pins σ H { s with heap:=h' }:=I.turned (t':=s.toks) (fun b o hb e=>(O.2 b hb).trans e) l m n q r;obtain⟨o,e,c,d⟩:=id f;show⟨u,rfl,qeF (s:={ s with heap:=h' }) e c d (by decide) ⟨x,H,F,N,⟨rfl,fun ys M=>by rw[I.list_inj M j];show B⟩,f,fun b hb=>(g b hb).1⟩⟩
 done:=by
  intro X y hw t hc i pins s σ H E I g st A;subst y hw t;obtain⟨xs,j,B⟩:=A;obtain⟨C,D,p,hz⟩:=I.list j;obtain⟨l,m,J,n,q,r⟩:=g it (by simp);have hl:=D.length;show wpAny_pyNext_list_end (I.ok.hd hc) st p.isList (by simp;lk) fun h' G=>⟨rfl,I.turned (t':=s.toks) (fun b o hb e=>G b o hb e) l m n q r⟩
 self:=fun _ _ _ _ _ st h=>wpAny_pyIter_listiter st h
theorem turn_tuple{K:yg}(a it:Addr):Turn P w K tg (Itt K a) [it] it (fun i h=>h.IsTupleIter it a i) where
 mem:=by simp
 obj:=fun i h st b hb=>by
  have e:b=it:=by simpa using hb
  subst e;obtain⟨o,e,c,d⟩:=st;show⟨o,e,fun v z=>by rw[d] at z;cases z⟩
 keep:=fun i h h' st k=>st.at fun o e=>k it (by simp) o e
 item:=by
  intro X A hw y hc i pins s σ H E I j st B;subst A hw y;obtain⟨xs,x,l,C⟩:=B;obtain⟨f,D,p,hz⟩:=I.tuple l;obtain⟨u,L,N⟩:=D.get C;obtain⟨m,n,J,q,r,t⟩:=j it (by simp);show wpAny_pyNext_tuple_item st (show s.heap.IsTuple a f.toArray from p) (x:=u) (by simpa using L) fun h' g O=>?_;have F:Inv X pins σ H { s with heap:=h' }:=I.turned (t':=s.toks) (fun b o hb e=>(O.2 b hb).trans e) m n q r t;obtain⟨o,e,c,d⟩:=id g;show⟨u,rfl,qeF (s:={ s with heap:=h' }) e c d (by decide) ⟨x,H,F,N,⟨rfl,fun ys M=>by rw[I.tuple_inj M l];show C⟩,g,fun b hb=>(j b hb).1⟩⟩
 done:=by
  intro X A hw y hc i pins s σ H E I j st B;subst A hw y;obtain⟨xs,l,C⟩:=B;obtain⟨f,D,p,hz⟩:=I.tuple l;obtain⟨m,n,J,q,r,t⟩:=j it (by simp);have hl:=D.length;show wpAny_pyNext_tuple_end (I.ok.hd hc) st (show s.heap.IsTuple a f.toArray from p) (by simp;lk) fun h' G=>⟨rfl,I.turned (t':=s.toks) (fun b o hb e=>G b o hb e) m n q r t⟩
 self:=fun _ _ _ _ _ st h=>wpAny_pyIter_tupleiter st h
theorem turn_range{K:yg}(it:Addr)(lo:Int)(n:Nat):Turn P w K tg (Itr lo n) [it] it (fun i h=>IsRangeIter h it (lo+(i:Nat)*1) ((n:Int)-(i:Nat)) 1) where
 mem:=by simp
 obj:=fun i h st b hb=>by
  have e:b=it:=by simpa using hb
  subst e
  show⟨_,st,fun v z=>by
   have A:Data.fields _=Data.cell v:=z;cases A⟩
 keep:=fun i h h' st k=>k it (by simp) _ st
 item:=by
  intro X p hw m hc i pins s σ H E I c st q;subst p hw m;obtain⟨d,f,x,g,j,l⟩:=c it (by simp);have W:=Walks.range (prog:=X.prog) (w:=X.w) (I.ok.hd hc) it lo 1 n;show W.item i s _ _ q st fun v h' tk hv a y=>?_;obtain⟨t,rfl⟩:=hv;have r:Inv X pins σ H { s with heap:=h',toks:=tk }:=I.turned (fun b o hb e=>y b o (by simpa using hb) e) d f g j l;show⟨_,rfl,qeF (s:={ s with heap:=h',toks:=tk }) (n:="range_iterator") a rfl rfl (by decide) ⟨.int (lo+i),H,r,⟨t,?_⟩,⟨rfl,rfl⟩,a,fun b hb=>(c b hb).1⟩⟩;rw[Int.mul_one]
 done:=by
  intro X p hw m hc i pins s σ H E I c st q;subst p hw m;obtain⟨d,f,x,g,j,l⟩:=c it (by simp);show wpAny_pyNext_range_end (I.ok.hd hc) st (by have:n<=i:=q;lk) fun h' u=>⟨rfl,I.turned (t':=s.toks) (fun b o hb e=>u b o hb e) d f g j l⟩
 self:=fun _ _ _ _ _ st h=>wpAny_pyIter_rangeiter st h
section
variable{X:Cx}{tg:Expr}
theorem range_it{R:It->Hp->Prop}{a:Int}{t u v:Tok}{tk:Nat}(I:Inv X pins σ H s)(h1:-(2 ^ 62)<=lo)(g:lo<2 ^ 62)(h:-(2 ^ 62)<=a)(i:a<2 ^ 62)
  (q:R (Itr lo (a-lo).toNat) H):wpAny (model X.prog X.w) X.A (pyIter (.ref s.heap.objs.size)) (PIE X pins σ tg R) E { s with heap:=s.heap.push { cls:=.type "range",data:=.fields #[.int lo t,.int a u,.int 1 v] },toks:=tk }:=by
 show wpAny_pyIter_range (IsRange.new ..) (small_one h1 g h i) ?_;have c:Inv X pins σ H { s with heap:=s.heap.push { cls:=.type "range",data:=.fields #[.int lo t,.int a u,.int 1 v] },toks:=tk }:=I.kept fun b o e=>yu _ e;show⟨(s.heap.push { cls:=.type "range",data:=.fields #[.int lo t,.int a u,.int 1 v] }).objs.size,[(s.heap.push { cls:=.type "range",data:=.fields #[.int lo t,.int a u,.int 1 v] }).objs.size],_,_,H,rfl,
  c.kept (t':=tk) fun b o e=>yu _ e,turn_range _ lo (a-lo).toNat,?_,fun b hb=>?_,q⟩
 .have d:lo+((0:Nat):Int)*1=lo:=by simp
  have f:(((a-lo).toNat:Nat):Int)-((0:Nat):Int)=Builtin.Range.rangeSize lo a 1:=by rw[rangeSize_one];split<;>lk
  show IsRangeIter _ _ (lo+((0:Nat):Int)*1) ((((a-lo).toNat:Nat):Int)-((0:Nat):Int)) 1;rw[d,f];show yU _ rfl
 .have e:b=(s.heap.push { cls:=.type "range",data:=.fields #[.int lo t,.int a u,.int 1 v] }).objs.size:=by simpa using hb
  subst e;show c.fpOk (yh _) (c.hok.fresh (yh _))
def qe4(b:TA):TI:=fun σ H R=>b σ H fun vs a=>∃ j:Int,vs=[.int j]/\-(2 ^ 62)<=j/\j<2 ^ 62/\R (Itr 0 j.toNat) a
theorem zv{a:Expr}{c:TA}{p:Pos}(g:Gl X "range")(i:X.mg "range"=none)(f:PA X [a] c)(l:starEach [a] X.env=[(false,eval a X.env)]:=by rfl):PI X tg (.Call (.Name "range" p) [a] [] pos) (qe4 c):=by
 intro pins s σ H R I h;show Call_ (qaR I g i boot_range (Y7 (thn (f pos pins s σ H _ I h) fun us u ⟨vs,o,d,n,b⟩=>?_) l rfl));obtain⟨j,e,b,m,q⟩:=b;subst e
 cases n with
 | cons r rr =>
  cases rr;obtain⟨t,rfl⟩:=r;show call_range_1 (range_it d (by lk) (by lk) b m (by simpa using q))
def qfT(f:TI)(g:TG)(tb:TS):TS:=fun D σ H=>f σ H fun J d=>∃ W:Nat->Nat->St->Hp->Prop,(∃ m,W 0 m σ d)/\∀ i m σ H,W i m σ H ->
 (J.stop i H/\D.nx σ H)\/(J.go i H/\∃ N:St->Hp->Prop,(∀ a H',N a H'->∃ c,c<m/\W (i+1) c a H')/\∀ x H',J.yld i H x H'->g x σ H' fun b e=>tb { D with nx:=N,ct:=N,bk:=D.nx } b e)
noncomputable def qb2(fp:LQ)(h:Heap):List (Addr×Obj):=fp.filterMap fun b=>(h.get? b).map fun o=>(b,o)
theorem zU{o:Obj}(hb:b∈fp)(e:h.get? b=some o):(b,o)∈qb2 fp h:=List.mem_filterMap.mpr ⟨b,hb,by rw[e];rfl⟩
theorem of_pinsAt{p:Addr×Obj}(c:p∈qb2 fp h):p.1∈fp/\h.get? p.1=some p.2:=by
 obtain⟨b,hb,e⟩:=List.mem_filterMap.mp c
 cases q:h.get? b with
 | none=>rw[q] at e;cases e
 | some o =>
  rw[q] at e;have a:(b,o)=p:=ym e;subst a;show⟨hb,q⟩
theorem Inv.pinned(I:Inv X pins σ H s)(h:∀ b∈fp,qcv X pins H b)(i:∀ b∈fp,∃ o,s.heap.get? b=some o/\∀ v,o.data≠.cell v):Inv X (pins++qb2 fp s.heap) σ H s:=
 I.pins_of fun p j=>(yx.mp j).elim (fun z=>I.pin p (yR _ z)) fun z=>by
  obtain⟨hb,e⟩:=of_pinsAt z;obtain⟨c,f,g,_⟩:=h p.1 hb;obtain⟨o,a,d⟩:=i p.1 hb;rw[e] at a;cases a;show⟨e,c,f,g,d⟩
theorem Inv.unpinned{pl:List (Addr×Obj)}(I:Inv X (pins++pl) σ H s):Inv X pins σ H s:=I.pins_of fun p a=>I.pin p (yR _ (yS _ a))
theorem jo{l:Expr}{wi:TI}(C:PassesOwn (model X.prog X.w) X.A X.env X.xe)(hc:X.calm=true)(hi:PI X tg l wi)(hg:PG X tg g)(hb:PSs X body tb)
  (hs:∀ x,foldedSetIterable l X.env x=pure x:=by intro _;rfl):PS X (.For tg l body [] pos) (qfT wi g tb):=by
 intro pins s σ H D I h;show wpAny_For (thn (hi pins s σ H _ I h) fun v s1 h1=>thn h1 fun aa s2 h2=>?_) hs;obtain⟨it,fp,tn,J,H2,e,I2,T,R,Z,W,⟨m0,w0⟩,turn⟩:=h2;subst e;have p:∀{H':Hp},(∀ b∈fp,H' b=none)->∀ b∈fp,qcv X pins H' b:=fun hn b hb=>⟨hn b hb,(Z b hb).2⟩;show codeAny_forLoop_any (fun n s'=>∃ i q H',Inv X pins q H' s'/\tn i s'.heap/\(∀ b∈fp,H' b=none)/\W i n q H') ?_ m0 ⟨0,σ,H2,I2,R,fun b hb=>(Z b hb).1,w0⟩;rintro n s3 ⟨i,t,K,Y,F,B,w3⟩;rcases turn i n t K w3 with⟨G,qn⟩ | ⟨go,N,hN,step⟩
 .show xN C (thn (T.done X rfl rfl rfl hc i pins s3 t K X.xe Y (p B) F G) fun r s4 ⟨O,I4⟩=>?_);subst O;show X9 ⟨t,K,I4,qn⟩
 .show xN C (thn (T.item X rfl rfl rfl hc i pins s3 t K X.xe Y (p B) F go) fun r s4 ⟨u,O,h4⟩=>?_);subst O;show xN C (thn h4 fun _ s5 ⟨x,U,I5,r5,y5,z,M⟩=>?_);have L:=I5.pinned (p M) (T.obj _ _ z);show xN C (thn (hg _ s5 t U x u _ L r5 (step x U y5)) fun _ s6 ⟨S,H6,I6,q6⟩=>?_);show xN C (thn (hb _ s6 S H6 _ I6 q6) fun f P y=>?_)
  have again:∀{a:St} {c:Hp},Inv X (pins++qb2 fp s5.heap) a c P->N a c->∃ m,m<n/\∃ i q H',Inv X pins q H' P/\tn i P.heap/\(∀ b∈fp,H' b=none)/\W i m q H':=fun{a c} j E=>by
   obtain⟨m',hm,w7⟩:=hN a c E;show⟨m',hm,i+1,a,c,j.unpinned,T.keep _ _ _ z fun b hb o e=>(j.pin (b,o) (yR _ (yR _ (zU hb e)))).1,fun b hb=>?_,w7⟩;obtain⟨o,e,d⟩:=T.obj _ _ z b hb;show(j.pin (b,o) (yR _ (yR _ (zU hb e)))).2.1
  cases f with
  | next=>obtain⟨a,c,j,E⟩:=y;show again j E
  | cont=>obtain⟨a,c,j,E⟩:=y;show again j E
  | brk=>obtain⟨a,c,j,y⟩:=y;show⟨a,c,j.unpinned,y⟩
  | ret v=>obtain⟨x7,a,c,j,r7,y⟩:=y;show⟨x7,a,c,j.unpinned,r7,y⟩
end
theorem qN{K:yg}(b:Nat->St->Hp->Prop)(l:b 0 σ H)(hl:∀ i σ H,i<=xs.length->b i σ H->SqL K H a xs)
  (r:∀ i x σ H,xs[i]?=some x->b i σ H->g x σ H fun d h=>tb { D with nx:=b (i+1),ct:=b (i+1),bk:=D.nx } d h) (n:∀ σ H,b xs.length σ H->D.nx σ H) :
  ∃ W:Nat->Nat->St->Hp->Prop,(∃ m,W 0 m σ H)/\∀ i m σ H,W i m σ H ->
   ((Itl K a).stop i H/\D.nx σ H)\/((Itl K a).go i H/\∃ N:St->Hp->Prop,(∀ c H',N c H'->∃ j,j<m/\W (i+1) j c H')/\∀ x H',(Itl K a).yld i H x H'->g x σ H' fun d h=>tb { D with nx:=N,ct:=N,bk:=D.nx } d h):=by
 show⟨fun i m σ H=>m=xs.length-i/\i<=xs.length/\b i σ H,⟨xs.length,by simp,YW _,l⟩,?_⟩;rintro i m σ H ⟨rfl,o,p⟩;have q:=hl i σ H o p;by_cases f:i<xs.length
 .show .inr ⟨⟨xs,xs[i],q,by simp[f]⟩,b (i+1),fun c H' s=>⟨xs.length-(i+1),by lk,rfl,f,s⟩,fun x H' y=>?_⟩;obtain⟨e,y⟩:=y;subst e;show r i x σ _ (y xs q) p
 .have e:i=xs.length:=by lk
  subst e;show .inl ⟨⟨xs,q,yh _⟩,n σ H p⟩
theorem qa5(a:Nat->St->Hp->Prop)(j:a 0 σ H)
  (o:∀ i σ H,i<n->a i σ H->g (.int (lo+i)) σ H fun d f=>tb { D with nx:=a (i+1),ct:=a (i+1),bk:=D.nx } d f) (l:∀ σ H,a n σ H->D.nx σ H) :
  ∃ W:Nat->Nat->St->Hp->Prop,(∃ m,W 0 m σ H)/\∀ i m σ H,W i m σ H ->
   ((Itr lo n).stop i H/\D.nx σ H)\/((Itr lo n).go i H/\∃ N:St->Hp->Prop,(∀ c H',N c H'->∃ h,h<m/\W (i+1) h c H')/\∀ x H',(Itr lo n).yld i H x H'->g x σ H' fun d f=>tb { D with nx:=N,ct:=N,bk:=D.nx } d f):=by
 show⟨fun i m σ H=>m=n-i/\i<=n/\a i σ H,⟨n,by simp,YW _,j⟩,?_⟩;rintro i m σ H ⟨rfl,r,p⟩;by_cases b:i<n
 .show .inr ⟨b,a (i+1),fun c H' q=>⟨n-(i+1),by lk,rfl,b,q⟩,fun x H' y=>?_⟩;obtain⟨e,y⟩:=y;subst e y;show o i σ _ b p
 .have e:i=n:=by lk
  subst e;show .inl ⟨yh _,l σ H p⟩
abbrev R2:=V->V->Hp->VK->Prop
def OpR(X:Cx)(f:Value->Value->Sem Value)(r:R2):Prop:=
 ∀(pins:List (Addr×Obj)) (s:Shared) (σ:St) (H:Hp) (x y:V) (v u:Value) (Q:VK),Inv X pins σ H s->RelV x v->RelV y u->r x y H Q ->
  wpAny (model X.prog X.w) X.A (f v u) (EP X pins σ Q) X.xe s
def UnR(X:Cx)(f:Value->Sem Value)(r:V->Hp->VK->Prop):Prop:=
 ∀(pins:List (Addr×Obj)) (s:Shared) (σ:St) (H:Hp) (x:V) (v:Value) (Q:VK),Inv X pins σ H s->RelV x v->r x H Q ->
  wpAny (model X.prog X.w) X.A (f v) (EP X pins σ Q) X.xe s
def zL(X:Cx)(f:Value)(r:List V->Hp->VK->Prop):Prop:=
 ∀(pins:List (Addr×Obj)) (s:Shared) (σ:St) (H:Hp) (xs:List V) (us:List Value) (Q:VK),Inv X pins σ H s->Vals xs us->r xs H Q ->
  wpAny (model X.prog X.w) X.A (call f us) (EP X pins σ Q) X.xe s
def tOp(r:R2)(c tb:TE):TE:=fun σ H Q=>c σ H fun x a=>tb σ a fun y b=>r x y b Q
def tUn(r:V->Hp->VK->Prop)(b:TE):TE:=fun σ H Q=>b σ H fun x a=>r x a Q
def rI(C:Int->Int->Prop)(g:Int->Int->V):R2:=fun x y H Q=>∃ i j,x=.int i/\y=.int j/\C i j/\Q (g i j) H
def rI0(g:Int->Int->V):R2:=fun x y H Q=>∃ i j,x=.int i/\y=.int j/\Q (g i j) H
def rU(g:Int->V):V->Hp->VK->Prop:=fun x H Q=>∃ i,x=.int i/\Q (g i) H
section
variable{X:Cx}{a b c:Expr}{ta tb tc:TE}{pos:Pos}
theorem qfz(m:PE X a ta)(hb:PE X b tb){R:V->V->Hp->Prop}(I:Inv X pins σ H s)
  (h:ta σ H fun x i=>tb σ i fun y c=>R x y c) {Q:Value->Shared->Prop}
  (n:∀ v u g x y c,Inv X pins σ c g->RelV x v->RelV y u->R x y c->wpAny (model X.prog X.w) X.A (f v u) Q X.xe g) :
  wpAny (model X.prog X.w) X.A (eval a X.env) (fun v d=>wpAny (model X.prog X.w) X.A (eval b X.env) (fun u e=>wpAny (model X.prog X.w) X.A (f v u) Q X.xe e) X.xe d) X.xe s:=by
 show thn (m pins s σ H _ I h) fun v t ⟨x,i,j,q,o⟩=>?_;show thn (hb pins t σ i _ j o) fun u g ⟨y,c,l,r,p⟩=>?_;show n v u g x y c l q r p
theorem qE{op:Operator}(f:OpR X (binaryOp op) r)(e:PE X a ta)(hb:PE X b tb):PE X (.BinOp a op b pos) (tOp r ta tb):=by
 intro pins s σ H Q I h;show wpAny_BinOp (qfz e hb I h fun v u j x y c d g i q=>f pins j σ c x y v u Q d g i q)
theorem qbF{op:UnaryOp}{r:V->Hp->VK->Prop}(e:UnR X (unaryOp op) r)(d:PE X a ta):PE X (.UnaryOp op a pos) (tUn r ta):=by
 intro pins s σ H Q I h;show UnaryOp_ (thn (d pins s σ H _ I h) fun v i ⟨x,b,c,g,f⟩=>e pins i σ b x v Q c g f)
theorem opI{C:Int->Int->Prop}{g:Int->Int->Int}
  (a:∀(i j:Int) (t u:Tok) (s:Shared) (Q:Value->Shared->Prop) (E:Value->Shared->Prop),C i j->Q (.int (g i j) s.toks) { s with toks:=s.toks+1 }->wpAny (model X.prog X.w) X.A (f (.int i t) (.int j u)) Q E s) :
  OpR X f (rI C fun i j=>.int (g i j)):=by
 intro pins s σ H x y v u Q I b c h;obtain⟨i,j,rfl,rfl,hc,q⟩:=h;obtain⟨t,rfl⟩:=b;obtain⟨t',rfl⟩:=c;show a i j t t' s _ _ hc ⟨.int (g i j),H,I.tok _,⟨_,rfl⟩,q⟩
theorem qfu{g:Int->Int->Int}
  (a:∀(i j:Int) (t u:Tok) (s:Shared) (Q:Value->Shared->Prop) (E:Value->Shared->Prop),Q (.int (g i j) s.toks) { s with toks:=s.toks+1 }->wpAny (model X.prog X.w) X.A (f (.int i t) (.int j u)) Q E s) :
  OpR X f (rI0 fun i j=>.int (g i j)):=by
 intro pins s σ H x y v u Q I b c h;obtain⟨i,j,rfl,rfl,q⟩:=h;obtain⟨t,rfl⟩:=b;obtain⟨t',rfl⟩:=c;show a i j t t' s _ _ ⟨.int (g i j),H,I.tok _,⟨_,rfl⟩,q⟩
theorem qfA{g:Int->Int->Bool}
  (a:∀(i j:Int) (t u:Tok) (s:Shared) (Q:Value->Shared->Prop) (E:Value->Shared->Prop),Q (.bool (g i j)) s->wpAny (model X.prog X.w) X.A (f (.int i t) (.int j u)) Q E s) :
  OpR X f (rI0 fun i j=>.bl (g i j)):=by
 intro pins s σ H x y v u Q I b c h;obtain⟨i,j,rfl,rfl,q⟩:=h;obtain⟨t,rfl⟩:=b;obtain⟨t',rfl⟩:=c;show a i j t t' s _ _ ⟨.bl (g i j),H,I,rfl,q⟩
def CDiv(i j:Int):Prop:=0<j/\j<1073741824
def qfU(i j:Int):Prop:=0<=j/\j<=1000000/\i.natAbs<2 ^ 64
def CMul(i j:Int):Prop:=(-(2 ^ 64)<i/\i<2 ^ 64)\/(-(2 ^ 64)<j/\j<2 ^ 64)
theorem CMul.ok{i j:Int}(h:CMul i j):IntMulOk i j:=by
 rcases h with⟨h1,a⟩ | ⟨h1,a⟩
 .show .of_left (intBits_le_64 h1 a)
 .show .of_right (intBits_le_64 h1 a)
theorem two_pow_nn(k:Nat):(0:Int)<=2 ^ k:=by
 rw[two_pow_cast];show Int.natCast_nonneg _
theorem op_add:OpR X (binaryOp .Add) (rI0 fun i j=>.int (i+j)):=qfu fun _ _ _ _ _ _ _ q=>add_int q
theorem qbq:OpR X (binaryOp .Sub) (rI0 fun i j=>.int (i-j)):=qfu fun _ _ _ _ _ _ _ q=>sub_int q
theorem op_mul:OpR X (binaryOp .Mult) (rI CMul fun i j=>.int (i*j)):=opI fun _ _ _ _ _ _ _ hc q=>mul_int q hc.ok
theorem qbG:OpR X (binaryOp .FloorDiv) (rI CDiv fun i j=>.int (i / j)):=opI fun i j _ _ _ _ _ hc q=>by
 have h1:(0:Int)<j:=hc.1;have a:j<1073741824:=hc.2;show floordiv_int (by lk) (by rw[Int.fdiv_eq_ediv_of_nonneg i (by lk)];show q) (.inl (PyProof.noPylong_small (by lk)))
theorem zw:OpR X (binaryOp .Mod) (rI (fun _ j=>0<j) fun i j=>.int (i % j)):=opI fun i j _ _ _ _ _ hc q=>by
 have h1:(0:Int)<j:=hc;show mod_int' (by lk) (by rw[Int.fmod_eq_emod_of_nonneg i (by lk)];show q)
theorem op_pow:OpR X (binaryOp .Pow) (rI qfU fun i j=>.int (i ^ j.toNat)):=opI fun _ _ _ _ _ _ _ hc q=>pow_int_small hc.1 hc.2.1 hc.2.2 q
theorem qef:OpR X (binaryOp .LShift) (rI qfU fun i j=>.int (i*2 ^ j.toNat)):=opI fun _ _ _ _ _ _ _ hc q=>lshift_int_small hc.1 hc.2.1 hc.2.2 q
theorem op_shr:OpR X (binaryOp .RShift) (rI (fun _ j=>0<=j) fun i j=>.int (i / 2 ^ j.toNat)):=opI fun i j _ _ _ _ _ hc q =>
 rshift_int hc (by rw[Int.fdiv_eq_ediv_of_nonneg i (two_pow_nn _)];show q)
theorem op_and:OpR X (binaryOp .BitAnd) (rI0 fun i j=>.int (Builtin.bitAnd i j)):=qfu fun _ _ _ _ _ _ _ q=>and_int q
theorem qe5:OpR X (binaryOp .BitOr) (rI0 fun i j=>.int (Builtin.bitOr i j)):=qfu fun _ _ _ _ _ _ _ q=>or_int q
theorem unI{f:Value->Sem Value}{g:Int->Int}
  (a:∀(i:Int) (t:Tok) (s:Shared) (Q:Value->Shared->Prop) (E:Value->Shared->Prop),Q (.int (g i) s.toks) { s with toks:=s.toks+1 }->wpAny (model X.prog X.w) X.A (f (.int i t)) Q E s) :
  UnR X f (rU fun i=>.int (g i)):=by
 intro pins s σ H x v Q I b h;obtain⟨i,rfl,q⟩:=h;obtain⟨t,rfl⟩:=b;show a i t s _ _ ⟨.int (g i),H,I.tok _,⟨_,rfl⟩,q⟩
theorem qas:UnR X (unaryOp .USub) (rU fun i=>.int (-i)):=unI fun _ _ _ _ _ q=>neg_int q
end
noncomputable def scal:V->V->Bool
 | .non,.non=>true | .non,.int _=>true | .int _,.non=>true | .non,.bl _=>true | .bl _,.non=>true | .non,.str _=>true | .str _,.non=>true
 | .int _,.int _=>true | .bl _,.bl _=>true | .str _,.str _=>true | .byt _,.byt _=>true
 | .int _,.str _=>true | .str _,.int _=>true | .bl _,.str _=>true | .str _,.bl _=>true
 | _,_=>false
def rEq:R2:=fun x y H Q=>scal x y=true/\Q (.bl (decide (x=y))) H
theorem dec_bl{i j:Bool}:decide (V.bl i=V.bl j)=(i==j):=by
 rw[YQ];simp
section
variable{X:Cx}{a b c:Expr}{ta tb tc:TE}{pos:Pos}
theorem qcP{Q:VK}{k k':Bool}(I:Inv X pins σ H s)(q:Q (.bl k) H)(e:k=k'):EP X pins σ Q (.bool k') s:=by
 subst e;show⟨.bl k,H,I,rfl,q⟩
theorem qdc:OpR X (compareOp .Lt) (rI0 fun i j=>.bl (decide (i<j))):=qfA fun _ _ _ _ _ _ _ q=>lt_int q
theorem op_le:OpR X (compareOp .LtE) (rI0 fun i j=>.bl (decide (i<=j))):=qfA fun _ _ _ _ _ _ _ q=>le_int q
theorem qdd:OpR X (compareOp .Gt) (rI0 fun i j=>.bl (decide (j<i))):=qfA fun _ _ _ _ _ _ _ q=>gt_int q
theorem op_isN:OpR X (compareOp .Is) (fun x y H Q=>y=.non/\Q (.bl (decide (x=.non))) H):=by
 intro pins s σ H x y v u Q I a b h;obtain⟨rfl,q⟩:=h;cases b;show is_none_gen (qcP I q ?_);cases x<;>first
  | (cases a;rfl)
  | (obtain⟨t,rfl⟩:=a;rfl)
theorem qcw:OpR X (compareOp .IsNot) (fun x y H Q=>y=.non/\Q (.bl (!decide (x=.non))) H):=by
 intro pins s σ H x y v u Q I a b h;obtain⟨rfl,q⟩:=h;cases b;show isnot_none_gen (qcP I q ?_);cases x<;>first
  | (cases a;rfl)
  | (obtain⟨t,rfl⟩:=a;rfl)
theorem qw(b:Expr)(h:op≠.In:=by decide)(d:op≠.NotIn:=by decide):behindInMarks op b=false:=by
 have a:(op==CmpOp.In)=false:=by cases op<;>first | rfl | show absurd rfl h
 have c:(op==CmpOp.NotIn)=false:=by cases op<;>first | rfl | show absurd rfl d
 cases b<;>simp[behindInMarks,a,c]
theorem jq(g:OpR X (compareOp op) r)(e:PE X a ta)(hb:PE X b tb)(f:behindInMarks op b=false):PE X (.Compare a [op] [b] pos) (tOp r ta tb):=by
 intro pins s σ H Q I h;show wpAny_Compare1 (qfz e hb I h fun v u l x y c d i j q=>g pins l σ c x y v u Q d i j q) f
def qeG(t:TE):TT:=fun σ H Q=>t σ H fun x H'=>∃ k,x=.bl k/\Q k H'
theorem qj(o:OpR X (compareOp op) r)(m:PE X a ta)(hb:PE X b tb)(n:behindInMarks op b=false):PT X (.Compare a [op] [b] pos) (qeG (tOp r ta tb)):=by
 intro pins s σ H Q I h
 show wpAny_isTrue_Compare1 (thn (m pins s σ H _ I h) fun v C ⟨x,d,i,w,p⟩=>thn (hb pins C σ d _ i p) fun u D ⟨y,f,j,A,q⟩ =>
  thn (o pins D σ f x y v u _ j w A q) fun c E ⟨z,g,l,B,k,e,t⟩=>?_) n
 subst e;cases B;show xu ⟨g,l,t⟩
def qdp(r r':R2)(ta tb tc:TE):TE:=fun σ H Q=>ta σ H fun x b=>tb σ b fun y c=>r x y c fun z a=>∃ k,z=.bl k /\
 (if k=true then tc σ a fun e d=>r' y e d Q else Q (.bl false) a)
theorem pe_chain(B:OpR X (compareOp op) r)(f:OpR X (compareOp op') r')(w:PE X a ta)(hb:PE X b tb)(hc:PE X c tc)
  (A:lastMarks [op,op'] [b,c]=false:=by with_unfolding_all rfl):PE X (.Compare a [op,op'] [b,c] pos) (qdp r r' ta tb tc):=by
 intro pins s σ H Q I h
 show Compare_chain (thn (w pins s σ H _ I h) fun v K ⟨x,m,p,F,C⟩=>chain_link (thn (hb pins K σ m _ p C) fun u L ⟨y,n,q,l,D⟩ =>
  thn (B pins L σ n x y v u _ q F l D) fun d M ⟨z,g,i,G,k,e,j⟩=>?_)) A
 subst e;cases G;show xu ?_
 cases k with
 | false=>show ite_ff ⟨.bl false,g,i,rfl,j⟩
 | true=>show ite_tt (chain_last (thn (hc pins M σ g _ i j) fun O N ⟨P,o,t,J,E⟩=>f pins N σ o y P u O Q t l J E))
theorem pt_chain(F:OpR X (compareOp op) r)(f:OpR X (compareOp op') r')(D:PE X a ta)(hb:PE X b tb)(hc:PE X c tc)
  (E:lastMarks [op,op'] [b,c]=false:=by with_unfolding_all rfl):PT X (.Compare a [op,op'] [b,c] pos) (qeG (qdp r r' ta tb tc)):=by
 intro pins s σ H Q I h
 show isTrue_chain (thn (D pins s σ H _ I h) fun v S ⟨x,m,q,N,J⟩=>test_link (thn (hb pins S σ m _ q J) fun u T ⟨y,n,t,l,K⟩ =>
  thn (F pins T σ n x y v u _ t N l K) fun d U ⟨z,g,i,O,k,e,j⟩=>?_)) E
 subst e;cases O;show xu ?_
 cases k with
 | false =>
  obtain⟨k',B,G⟩:=j;cases B;show ite_ff ⟨g,i,G⟩
 | true =>
  show ite_tt (test_last (thn (hc pins U σ g _ i j) fun Y W ⟨Z,o,w,P,L⟩=>thn (f pins W σ o y Z u Y _ w l P L) fun d' s5 ⟨z2,p,A,R,k2,C,M⟩=>?_));subst C;cases R;show xu ⟨p,A,M⟩
theorem qbr:(sizeLine:Nat)<2 ^ 63:=by rw[YA];decide
theorem op_add_str:OpR X (binaryOp .Add) (fun x y H Q=>∃ i j,x=.str i/\y=.str j/\i.length+j.length<=sizeLine/\Q (.str (i++j)) H):=by
 intro pins s σ H x y v u Q I a b h;obtain⟨i,j,rfl,rfl,hz,q⟩:=h;obtain⟨t,rfl⟩:=a;obtain⟨t',rfl⟩:=b;show add_str (fun t' tk=>⟨.str (i++j),H,I.tok _,⟨_,rfl⟩,q⟩) hz
theorem qbl{x:V}(r:Vals [x] us):∃ u,us=[u]/\RelV x u:=by
 cases r with
 | cons r1 r2=>cases r2;show⟨_,rfl,r1⟩
theorem qd6{x:V}(r:Vals [x,y] us):∃ u a,us=[u,a]/\RelV x u/\RelV y a:=by
 cases r with
 | cons r1 r2 =>
  cases r2 with
  | cons r3 r4=>cases r4;show⟨_,_,rfl,r1,r3⟩
theorem call_max2(hc:X.calm=true):zL X (.builtin "max") (fun xs H Q=>∃ i j,xs=[.int i,.int j]/\Q (.int (if j>i then j else i)) H):=by
 intro pins s σ H xs us Q I r h;obtain⟨i,j,rfl,q⟩:=h;obtain⟨u,b,rfl,⟨t,rfl⟩,⟨t',rfl⟩⟩:=qd6 r;show max_two_ints (I.ok.hd hc) fun h' tk k=>⟨_,H,I.kept k,?_,q⟩;by_cases a:j>i
 .rw [yG a,yG a];show⟨_,rfl⟩
 .rw [yE a,yE a];show⟨_,rfl⟩
end
structure ObjM(h:Heap)(x dx C:Addr)(mA:Str->Option Value):Prop where
 obj:h.get? x=some (PySem.W.instObj C dx)
 ns:h.Ns1 dx mA
 ne:dx≠x
theorem qb3(n:h.Ns1 dx mA):∃ od,h.get? dx=some od/\∀ name,PySem.W.lookIn name od=some (mA name):=by
 obtain⟨o,es,ep,i,d,f,_,g⟩:=n;show⟨o,i,fun name=>?_⟩;have e:=g name;unfold nsFind findBy at e;rw[<- Array.find?_toList] at e;unfold PySem.W.lookIn;rw[d];dsimp only;split
 .rename_i y q
  rw[q] at e;show congrArg some e
 .rename_i q
  rw[q] at e
  have a:es.toList.any (·.refKey)=false:=by
   rw[List.any_eq_false];intro y j;obtain⟨z,t,b⟩:=f y (Array.mem_toList_iff.mp j);simp[DictEntry.refKey,b]
  have c:¬ es.toList.any (·.refKey)=true:=by rw[a];show Yo
  rw[yE c];show congrArg some e
theorem ObjM.look{x:Addr}(I:ObjM h x dx C mA):∃ od,PySem.W.InstAt h x (PySem.W.instObj C dx) C (some od)/\∀ name,PySem.W.lookIn name od=some (mA name):=
 let ⟨od,ho,hl⟩:=qb3 I.ns
 ⟨od,⟨I.obj,rfl,rfl,ho⟩,hl⟩
section
variable{prog:Program}{w:World}{A:Around}{E:Value->Shared->Prop}{s:Shared}{K:yg}{x dx C f:Addr}{mA:Str->Option Value}{name:Str}{v:Value}
theorem get_map{a:Bool}{Q:Value->Shared->Prop}(X:K.In s.heap)(I:ObjM s.heap x dx C mA)(d:PySem.W.plainGet K C name=true)(e:PySem.W.hasDictIn K C=true)
  (c:PySem.W.findIn K (.ref C) name=some none) (hv:mA name=some v) (b:PySem.W.handedIn v=true) (h:Q v { s with toks:=s.toks+1 }) :
  wpAny (model prog w) A (getAttr (.ref x) name a) Q E s:=by
 obtain⟨od,J,hl⟩:=I.look;show PySem.W.get_value X J (km d).1 (PySem.W.findObj_own e c rfl (by rw[hl,hv])) b h
theorem get_meth{Q:Value×List Value->Shared->Prop}(X:K.In s.heap)(I:ObjM s.heap x dx C mA)(a:PySem.W.plainGet K C name=true)
  (b:PySem.W.findIn K (.ref C) name=some (some (.ref f))) (c:PySem.W.isFn K (.ref f)=true) (hv:mA name=none) (h:Q (.ref f,[.ref x]) s) :
  wpAny (model prog w) A (getMethod (.ref x) name pl) Q E s:=by
 obtain⟨od,J,hl⟩:=I.look;show PySem.W.method_fn X J (km a).1 (km a).2 b (Ye.mp c) (by show(PySem.W.lookIn name od).map (·.isSome)=some false;rw[hl,hv];rfl) h
theorem set_map{ns:LS}{Q:Unit->Shared->Prop}(X:K.In s.heap)(I:ObjM s.heap x dx C mA)
  (o:PySem.W.findIn K (.ref C) "__setattr__"=some (some (.builtin "object.__setattr__"))) (n:PySem.W.plainOver K C=true) (p:PySem.W.takerIn K C name=some none) (m:PySem.W.hasDictIn K C=true)
  (hw:PySem.Within mA ns) (hsz:ns.length<=sizeLine)
  (h:∀ h',ObjM h' x dx C (fun y=>if y=name then some v else mA y)->Heap.SameBut dx s.heap h'->Q () { s with heap:=h',toks:=s.toks+2 }) :
  wpAny (model prog w) A (setAttr (.ref x) name v) Q E s:=by
 obtain⟨od,J,hl⟩:=I.look;show PySem.W.set_plain X J o (PySem.W.osa_open (s:={ s with toks:=s.toks+1 }) (r:=none) X J n p fun b=>?_);obtain⟨t,hc,f⟩:=xW m;have q:s.heap.get? x=some ⟨.ref C,some dx,.plain,#[]⟩:=I.obj;show yr (yw (yr (yr (wpAny_loadPart q (yr (PySem.W.Looks.here (s:={ s with toks:=s.toks+1 }) (kn X hc) ?_))))));rw[f];show yw (a:=some dx) (yr (yw (yr ?_)));show wpAny_nsSet1 (s:={ s with toks:=s.toks+1 }) I.ns fun h' c d=>?_;obtain⟨u,l,j,i,g,e⟩:=c.count (PySem.Within.cons name v hw);show yr (wpAny_lookBehind i (by rw[g];show pastItsLine_dict (yi e (by rw[yy];lk))) ?_);show yw (h _ ⟨(d.2 _ (Yd I.ne)).trans I.obj,c,I.ne⟩ d)
theorem make_map{R:Result->Shared->Prop}{vs:List Value}(X:K.In s.heap)(c:PySem.W.makesIn K C=true)
  (b:PySem.W.findIn K (.ref C) "__init__"=some (some (.ref f))) (a:PySem.W.typeIn K (.ref f)=some (.type "function"))
  (h:codeAny (model prog w) (A.under (.builtin "type.__call__" ⟨.ref C::vs,kw⟩)) (.call (.ref f) ⟨.ref (s.heap.objs.size+1)::vs,kw⟩) (PySem.W.InitBack (s.heap.objs.size+1) R)
   { s with heap:=(s.heap.push PySem.W.emptyDict).push (PySem.W.instObj C s.heap.objs.size) }) :
  codeAny (model prog w) A (.call (.ref C) ⟨vs,kw⟩) R s:=by
 obtain⟨e,g,d,t,i⟩:=s;show PySem.W.make_core (PySem.W.makes_of X c) (YN X b) (fun self=>PySem.W.bind_fn X self a) (.inl rfl) h
end
noncomputable def qD(f:Str)(v:V):List (Str×V)->List (Str×V)
 | []=>[(f,v)]
 | (g,x)::r=>if g=f then(g,v)::r else(g,x)::qD f v r
theorem qA(f g:Str)(v:V):∀ fs:List (Str×V),(qD f v fs).lookup g=if g=f then some v else fs.lookup g
 | []=>by
  show List.lookup g [(f,v)]=_;by_cases h:g=f
  .have hb:(g==f)=true:=Ye.mpr h;simp only[List.lookup,hb,yG h]
  .have hb:(g==f)=false:=Yz.mpr h;simp only[List.lookup,hb,yE h]
 | (k,x)::r=>by
  have b:=qA f g v r;rw[show qD f v ((k,x)::r)=(if k=f then(k,v)::r else(k,x)::qD f v r) from rfl];by_cases a:k=f
  .rw [yG a];by_cases h:g=k
   .have hb:(g==k)=true:=Ye.mpr h;simp only[List.lookup,hb,yG (h.trans a)]
   .have hb:(g==k)=false:=Yz.mpr h;simp only[List.lookup,hb,yE (fun e:g=f=>h (e.trans a.symm))]
  .rw [yE a];by_cases h:g=k
   .have hb:(g==k)=true:=Ye.mpr h;simp only[List.lookup,hb,yE (fun e:g=f=>a (h.symm.trans e))]
   .have hb:(g==k)=false:=Yz.mpr h;simp only[List.lookup,hb];show b
theorem qa6(f:Str)(v:V):∀ fs:List (Str×V),f∈(qD f v fs).map (·.1)/\∀ g,g∈fs.map (·.1)->g∈(qD f v fs).map (·.1)
 | []=>⟨by simp[qD],fun g h=>by simp at h⟩
 | (k,x)::r=>by
  obtain⟨b,c⟩:=qa6 f v r;rw[show qD f v ((k,x)::r)=(if k=f then(k,v)::r else(k,x)::qD f v r) from rfl];by_cases a:k=f
  .rw [yG a];subst a;show⟨by simp,fun g h=>by simpa using h⟩
  .rw [yE a];show⟨?_,fun g h=>?_⟩
   .rw [YF];show yN _ b
   .rw [YF] at h ⊢;rcases yz.mp h with e | e
    .show yz.mpr (.inl e)
    .show yN _ (c g e)
theorem jF(f:Str)(v:V):∀ fs:List (Str×V),(qD f v fs).length<=fs.length+1
 | []=>by simp[qD]
 | (k,x)::r=>by
  have b:=jF f v r;rw[show qD f v ((k,x)::r)=(if k=f then(k,v)::r else(k,x)::qD f v r) from rfl];by_cases a:k=f
  .rw [yG a,yy,yy];lk
  .rw [yE a,yy,yy];lk
theorem RelO.some_of{o:Option Value}(r:RelO (some v) o):∃ u,o=some u/\RelV v u:=by
 cases o with
 | none=>show(show False from r).elim
 | some u=>show⟨u,rfl,r⟩
theorem RelO.none_of{o:Option Value}(r:RelO none o):o=none:=by
 cases o with
 | none=>rfl
 | some u=>show(show False from r).elim
theorem qb4(r:RelV v u):PySem.W.handedIn u=true:=by
 cases v with
 | non=>cases (show u=Value.none from r);rfl
 | bl b=>cases (show u=Value.bool b from r);rfl
 | int i=>obtain⟨t,e⟩:=(show ∃ t,u=Value.int i t from r);cases e;rfl
 | str x=>obtain⟨t,e⟩:=(show ∃ t,u=Value.str x t from r);cases e;rfl
 | byt b=>obtain⟨t,e⟩:=(show ∃ t,u=Value.bytes b t from r);cases e;rfl
 | flt b=>obtain⟨t,e⟩:=(show ∃ t,u=Value.float b t from r);cases e;rfl
 | ref a=>cases (show u=Value.ref a from r);rfl
 | ty n=>cases (show u=Value.type n from r);rfl
section
variable{P:Program}{w:World}{H H':Hp}{h h':Heap}{a C dx:Addr}{fs fs':List (Str×V)}
theorem qaN(b:HOk P w H h)(e:H a=some (.ins C dx fs)):∃ mA,ObjM h a dx C mA/\(∀ f,RelO (fs.lookup f) (mA f))/\PySem.Within mA (fs.map (·.1))/\fs.length<=1000/\H dx=some (.own a):=by
 obtain⟨d,z,ne,c,mA,n,r,q⟩:=(show ObjOk P w H h a (.ins C dx fs) from b a _ e);show⟨mA,⟨c,n,ne⟩,r,q,z,d⟩
end
structure Cls(K:yg)(C:Addr):Prop where
 pg:PySem.W.plainGet K C Str.empty=true
 hd:PySem.W.hasDictIn K C=true
 po:PySem.W.plainOver K C=true
 sa:PySem.W.findIn K (.ref C) "__setattr__"=some (some (.builtin "object.__setattr__"))
theorem Cls.get{K:yg}(c:Cls K C)(f:Str):PySem.W.plainGet K C f=true:=c.pg
def NoAttr(K:yg)(C:Addr)(f:Str):Prop:=PySem.W.findIn K (.ref C) f=some none
theorem NoAttr.taker{K:yg}{f:Str}(n:NoAttr K C f):PySem.W.takerIn K C f=some none:=by
 unfold PySem.W.takerIn;rw[show PySem.W.findIn K (.ref C) f=some none from n];rfl
structure Con(K:yg)(C:Addr)(f:Str)(v:V)(u:Value):Prop where
 at_:PySem.W.findIn K (.ref C) f=some (some u)
 rel:RelV v u
 get:PySem.W.specialIn K u "__get__"=some none
 cp:PySem.W.copiedNames.contains f=false
structure Meth(K:yg)(C:Addr)(m:Str)(f:Addr):Prop where
 at_:PySem.W.findIn K (.ref C) m=some (some (.ref f))
 fn:PySem.W.isFn K (.ref f)=true
 kp:PySem.W.keepIn K (.ref f)=true
section
variable{X:Cx}{pins:List (Addr×Obj)}{σ:St}{H:Hp}{s:Shared}{a C dx:Addr}{fs:List (Str×V)}{f:Str}{v:V}{A:Around}{E:Value->Shared->Prop}
theorem getattr_ok{b:Bool}{Q:Value->Shared->Prop}(I:Inv X pins σ H s)(e:H a=some (.ins C dx fs))(c:Cls X.K C)(n:NoAttr X.K C f)(l:fs.lookup f=some v)
  (h:∀ u s',Inv X pins σ H s'->RelV v u->Q u s'):wpAny (model X.prog X.w) A (getAttr (.ref a) f b) Q E s:=by
 obtain⟨mA,O,r,_,_,_⟩:=qaN I.hok e;obtain⟨u,g,d⟩:=RelO.some_of (v:=v) (o:=mA f) (by rw[<- l];show r f);show get_map I.kIn O (c.get f) c.hd n g (qb4 d) (h u _ (I.tok _) d)
theorem qbs{m:Str}{g:Addr}{Q:Value×List Value->Shared->Prop}(I:Inv X pins σ H s)(e:H a=some (.ins C dx fs))(c:Cls X.K C)(k:Meth X.K C m g)(l:fs.lookup m=none)
  (h:Q (.ref g,[.ref a]) s):wpAny (model X.prog X.w) A (getMethod (.ref a) m pl) Q E s:=by
 obtain⟨mA,O,r,_,_,_⟩:=qaN I.hok e;have b:mA m=none:=RelO.none_of (by rw[<- l];show r m);show get_meth I.kIn O (c.get m) k.at_ k.fn b h
theorem setattr_ok{Q:Unit->Shared->Prop}(I:Inv X pins σ H s)(e:H a=some (.ins C dx fs))(c:Cls X.K C)(n:NoAttr X.K C f)(hl:fs.length<1000)(p:RelV y u)
  (h:∀ s',Inv X pins σ (upd H a (.ins C dx (qD f y fs))) s'->Q () s'):wpAny (model X.prog X.w) A (setAttr (.ref a) f u) Q E s:=by
 obtain⟨mA,O,r,j,_,i⟩:=qaN I.hok e;have hz:(fs.map (·.1)).length<=sizeLine:=by rw[ya,YA];lk
 show set_map I.kIn O c.sa c.po n.taker c.hd j hz fun h' d t=>h _ ?_;have l:∃ o,h'.get? dx=some o:=let ⟨o,_,_,e',_⟩:=d.ns;⟨o,e'⟩;show I.write (x:=a) (e:=dx) (by rw[e];show YO) (.inr i) (fun b q hb z=>(t.2 b hb).trans z) l ?_;show⟨by rw[qf O.ne];show i,?_,O.ne,d.obj,_,d.ns,fun g=>?_,fun g m=>?_⟩
 .have:=jF f y fs;lk
 .show RelO ((qD f y fs).lookup g) (if g=f then some u else mA g);rw[qA];by_cases q:g=f
  .rw [yG q,yG q];show p
  .rw [yE q,yE q];show r g
 .by_cases q:g=f
  .rw [q];show(qa6 f y fs).1
  .show(qa6 f y fs).2 g (j g fun z=>m ?_);show(if g=f then some u else mA g)=none;rw[yE q];show z
theorem Inv.made(I:Inv X pins σ H s):Inv X pins σ (upd (upd H s.heap.objs.size (.own (s.heap.objs.size+1))) (s.heap.objs.size+1) (.ins C s.heap.objs.size []))
  { s with heap:=(s.heap.push PySem.W.emptyDict).push (PySem.W.instObj C s.heap.objs.size) }:=by
 have c:(s.heap.push PySem.W.emptyDict).get? s.heap.objs.size=some PySem.W.emptyDict:=yU s.heap rfl
 have f:((s.heap.push PySem.W.emptyDict).push (PySem.W.instObj C s.heap.objs.size)).get? (s.heap.objs.size+1)=some (PySem.W.instObj C s.heap.objs.size):=by
  have:=yU (s.heap.push PySem.W.emptyDict) (o:=PySem.W.instObj C s.heap.objs.size) rfl
  rwa[YI] at this
 have g:(s.heap.push PySem.W.emptyDict).Ns s.heap.objs.size (fun _=>none):=⟨PySem.W.emptyDict,#[],_,c,rfl,(fun e h=>absurd h (by simp)),fun _=>rfl⟩;have d:=I.laid (a:=s.heap.objs.size) (o:=.own (s.heap.objs.size+1)) (h':=s.heap.push PySem.W.emptyDict) (t':=s.toks) (fun b u q=>yu _ q) (yh _) ⟨_,c⟩;show d.laid (a:=s.heap.objs.size+1) (o:=.ins C s.heap.objs.size []) (t':=s.toks) (fun b u q=>yu _ q) (Kb (YI _ _)) ?_;have ne:s.heap.objs.size≠s.heap.objs.size+1:=yJ (Xx _);show⟨by rw[qf ne,qb],YW _,ne,f,fun _=>none,(Heap.Ns1.of_empty g).at fun o q=>yu _ q,fun _=>YO,fun y i=>absurd rfl i⟩
theorem attr_of{prog:Program}{env:Env}{f:Str}{Q:Value->Shared->Prop}(hb:attributeBase e f env (eval e env)=eval e env)
  (h:wpAny (model prog w) A (eval e env) (fun o a=>wpAny (model prog w) A (getAttr o f true) Q E a) E s):wpAny (model prog w) A (eval (.Attribute e f pos) env) Q E s:=
 Attribute_any_ h (by rw[arm_eval_Attribute,hb])
end
section
variable{X:Cx}{o e value:Expr}{f:Str}{pos pos' tpos:Pos}{ta tv:TE}
end
section
variable{X:Cx}{pins:List (Addr×Obj)}{σ:St}{H:Hp}{s:Shared}{A:Around}{E:Value->Shared->Prop}{Q:Value->Shared->Prop}{c:Value}{b:Bool}
inductive TyOf(K:yg)(H:Hp):V->Value->Prop where
 | non:TyOf K H .non (.type "NoneType")
 | bl (x:Bool):TyOf K H (.bl x) (.type "bool")
 | int (i:Int):TyOf K H (.int i) (.type "int")
 | str (x:Str):TyOf K H (.str x) (.type "str")
 | flt (x:UInt64):TyOf K H (.flt x) (.type "float")
 | lst {a:Addr} {xs:List V} (e:H a=some (.lst xs)):TyOf K H (.ref a) (.type "list")
 | frz {a:Addr} {o:Obj} {xs:List V} (e:H a=some (.frz o (.lst xs))):TyOf K H (.ref a) (.type "list")
 | tup {a:Addr} {xs:List V} (e:H a=some (.tup xs)):TyOf K H (.ref a) (.type "tuple")
 | dK {a:Addr} {kvs:List (Key×V)} (e:H a=some (.dK kvs)):TyOf K H (.ref a) (.type "dict")
 | dT {a:Addr} {kvs:List (List Key×V)} (e:H a=some (.dT kvs)):TyOf K H (.ref a) (.type "dict")
 | ins {a C dx:Addr} {fs:List (Str×V)} (e:H a=some (.ins C dx fs)) (cl:Cls K C) (ha:PySem.W.findIn K (.ref C) "__class__"=some (some (.builtin "object.__class__")))
   (hn:PySem.W.specialIn K (.builtin "object.__class__") "__get__"=some (some (.builtin "getset_descriptor.__get__"))) (htk:PySem.W.takesIn K (.builtin "object.__class__")=some true)
   (hm:PySem.W.mroIn K C (.type "object")=some true):TyOf K H (.ref a) (.ref C)
end
structure Room(k:Nat)(A:Around):Prop where
 hd:A.handled=none
 dp:A.depth+3*k+5<recursionLimit
 un:A.units+16*k+200<cLine
 gd:A.guards=some []
theorem Room.mono{k:Nat}(r:Room k A)(h:j<=k):Room j A:=⟨r.hd,by have:=r.dp;lk,by have:=r.un;lk,r.gd⟩
theorem Room.deeper{k:Nat}(r:Room (k+1) A)(env:Env):Room k (A.deeper env):=
 ⟨r.hd,by have:=r.dp;show A.depth+1+3*k+5<_;lk,by have:=r.un;show A.units+3+16*k+200<_;lk,r.gd⟩
theorem make_depth:(A.under (.builtin "type.__call__" ⟨.ref C::us,kw⟩)).depth=A.depth+1:=by
 first | rfl | simp[Around.under,Code.weight,Code.isCreation,Code.isGuard,Code.isCaller,Code.frames,Code.isFrame,guardIds]
theorem make_units:(A.under (.builtin "type.__call__" ⟨.ref C::us,kw⟩)).units=A.units+1:=by
 first | rfl | simp[Around.under,Code.cUnits,Code.frames,Code.isFrame]
theorem make_guards:(A.under (.builtin "type.__call__" ⟨.ref C::us,kw⟩)).guards=A.guards:=by
 first | rfl | simp[Around.under,Code.guards,Code.isGuard,guardIds,pushGuards]
theorem Room.make{k:Nat}(r:Room (k+1) A)(C:Addr)(us:List Value)(kw:List (Str×Value)):Room k (A.under (.builtin "type.__call__" ⟨.ref C::us,kw⟩)):=
 ⟨r.hd,by have:=r.dp;rw[make_depth];lk,by have:=r.un;rw[make_units];lk,by rw[make_guards];show r.gd⟩
theorem Room.depth{k:Nat}(r:Room k A):A.depth<recursionLimit:=by have:=r.dp;lk
def qe6:TA:=fun _ H Q=>Q [] H
def qd7(c:TE)(d:TA):TA:=fun σ H Q=>c σ H fun x a=>d σ a fun xs b=>Q (x::xs) b
section
variable{X:Cx}{e:Expr}{es:List Expr}{te:TE}{t:TA}{pos:Pos}
theorem qd:PA X [] qe6:=fun _ _ _ _ H Q I h=>ky ⟨[],H,I,.nil,h⟩
theorem qa(f:PE X e te)(g:PA X es t)(i:starEach (e::es) X.env=(false,eval e X.env)::starEach es X.env:=by rfl):PA X (e::es) (qd7 te t):=by
 intro pos pins s σ H Q I h;rw[i];show wpAny _ _ (spliced ((false,eval e X.env)::backTo pos (starEach es X.env))) _ _ s;show kq (thn (f pins s σ H _ I h) fun u o ⟨x,a,c,m,j⟩=>?_);show thn (g pos pins o σ a _ c j) fun us p ⟨xs,b,d,n,l⟩=>⟨x::xs,b,d,.cons m n,l⟩
inductive NewT(xs:List V)(H:Hp)(Q:VK):Prop|mk (_:xs.length<=sizeLine) (_:∀ p,H p=none->Q (.ref p) (upd H p (.tup xs)))
inductive NewL(xs:List V)(H:Hp)(Q:VK):Prop|mk (_:xs.length<=sizeLine) (_:∀ p,H p=none->Q (.ref p) (upd H p (.lst xs)))
def qfV(t:TA):TE:=fun σ H Q=>t σ H fun xs a=>NewT xs a Q
def qfW(t:TA):TE:=fun σ H Q=>t σ H fun xs a=>NewL xs a Q
theorem jS{x1}(h:PA X es t):PE X (.Tuple es x1 pos) (qfV t):=by
 intro pins s σ H Q I g;show wpAny_Tuple_spliced (thn (h pos pins s σ H _ I g) fun us a ⟨xs,c,d,r,z,q⟩=>⟨by rw[<- r.length];show z,?_⟩);have f:c a.heap.objs.size=none:=d.hok.fresh (yh _);show⟨.ref a.heap.objs.size,upd c a.heap.objs.size (.tup xs),d.laid (t':=a.toks) (fun b u e=>yu _ e) (yh _) ?_,rfl,q _ f⟩;show⟨z,us,r,⟨_,yU _ rfl,rfl,_,rfl⟩⟩
theorem jg(h:PA X es t):PE X (.List es pos) (qfW t):=by
 intro pins s σ H Q I g;show wpAny_List_spliced (thn (h pos pins s σ H _ I g) fun us a ⟨xs,c,d,r,z,q⟩=>⟨by rw[<- r.length];show z,?_⟩);have f:c a.heap.objs.size=none:=d.hok.fresh (yh _);show⟨.ref a.heap.objs.size,upd c a.heap.objs.size (.lst xs),d.laid (t':=a.toks) (fun b u e=>yu _ e) (yh _) ?_,rfl,q _ f⟩;show⟨z,us,0,r,yU _ rfl⟩
end
abbrev Sp:=List V->Hp->VK->XK->Prop
abbrev CXT:=List Env->Hp->Shared->XK->Value->Shared->Prop
structure Env0(P:Program)(w:World)(K:yg)(mg:Str->Option Value)(base:Heap)(A:Around)(outer:List Env)(s:Shared)(H:Hp):Prop where
 frames:A.frames=some outer
 mod:Mod K mg base
 bs:∀ b o,base.get? b=some o->s.heap.get? b=some o/\H b=none
 bsz:base.objs.size<=s.heap.objs.size
 funs:s.heap.FunFrames base outer
 frf:∀ b∈frs outer,H b=none
 hok:HOk P w H s.heap
 bare:AllBare s.gens
def CE(outer:List Env)(P:Program)(w:World)(H:Hp)(s:Shared)(Q:VK)(u:Value)(s':Shared):Prop:=
 ∃ v H',s'.os=s.os/\AllBare s'.gens/\Un (frs outer) [] H H' s.heap s'.heap/\HOk P w H' s'.heap/\RelV v u/\Q v H'
def CR(CX:CXT)(outer:List Env)(P:Program)(w:World)(H:Hp)(s:Shared)(Q:VK)(E:XK)(r:Result)(s':Shared):Prop:=
 match r with
 | .ok (.ret u)=>CE outer P w H s Q u s'
 | .ok _=>False
 | .error e=>CX outer H s E e s'
structure FnOk(P:Program)(w:World)(K:yg)(mg:Str->Option Value)(base:Heap)(CX:CXT)(k:Nat)(f:Addr)(fd:FuncData)(ps:LS)(sp:Sp):Prop where
 len:∀ vs H Q E,sp vs H Q E->vs.length=ps.length
 run:∀(A:Around) (outer:List Env) (s:Shared) (H:Hp) (args:Args) (us:List Value) (vs:List V) (Q:VK) (E:XK),Room k A->Env0 P w K mg base A outer s H->BindsTo s fd args (ps.zip us)->Vals vs us->sp vs H Q E ->
  codeAny (model P w) A (.call (.ref f) args) (CR CX outer P w H s Q E) s
theorem Env0.make{K:yg}(e:Env0 P w K mg base A outer s H)(C:Addr)(us:List Value)(kw:List (Str×Value)) :
  Env0 P w K mg base (A.under (.builtin "type.__call__" ⟨.ref C::us,kw⟩)) outer s H:=⟨by first | show e.frames | (simpa [Around.under,Code.envs,Code.isFrame,pushEnvs] using e.frames),e.mod,e.bs,e.bsz,e.funs,e.frf,e.hok,e.bare⟩
section
variable{X:Cx}{pins:List (Addr×Obj)}{σ:St}{H:Hp}{s s':Shared}
theorem Inv.env0(I:Inv X pins σ H s):Env0 X.prog X.w X.K X.mg X.base X.A X.stack s H:=
 ⟨I.ok.frames,I.ok.mod,I.bs,yi I.ok.bsz I.sz,I.stack,I.stkFree,I.hok,I.bare⟩
theorem Inv.after{Q:VK}(I:Inv X pins σ H s)(h:CE X.stack X.prog X.w H s Q u s'):EP X pins σ Q u s':=by
 obtain⟨v,H',i,a,un,c,r,q⟩:=h;obtain⟨f,g,d,t,e⟩:=s';obtain rfl:e=s.os:=i;show⟨v,H',I.call (h':=f) (g':=g) (d':=d) (t':=t) (ch:=[]) un c a (fun b z=>absurd z (by simp)),r,q⟩
end
def qde(sp:Sp)(a:List V)(E:XK)(t:TA):TE:=fun σ H Q=>t σ H fun vs b=>sp (vs++a) b Q E
inductive MeR(C:Addr)(m:Str)(x:V)(H:Hp)(k:Prop):Prop|mk (a dx:Addr) (fs:List (Str×V)) (_:x=.ref a) (_:H a=some (.ins C dx fs)) (_:fs.lookup m=none) (_:k)
def qdq(C:Addr)(m:Str)(sp:Sp)(a:List V)(E:XK)(d:TE)(t:TA):TE:=fun σ H Q=>d σ H fun x b=>MeR C m x b (t σ b fun vs c=>sp (x::(vs++a)) c Q E)
def qeH(C:Addr)(sp:Sp)(b:List V)(E:XK)(t:TA):TE:=fun σ H Q=>t σ H fun vs a=>∀ x dx,a x=none->a dx=none->dx≠x ->
 sp (.ref x::(vs++b)) (upd (upd a dx (.own x)) x (.ins C dx [])) (fun v c=>v=.non/\Q (.ref x) c) E
def Binds(K:yg)(b:FuncData)(ps:LS)(a:List Value):Prop:=
 ∀(s:Shared) (us:List Value),K.In s.heap->(us++a).length=ps.length->BindsTo s b ⟨us,[]⟩ (ps.zip (us++a))
theorem Binds.all{K:yg}{a:FuncData}(h:∀ us:List Value,us.length=ps.length->bindArgs a ⟨us,[]⟩=pure (ps.zip us)):Binds K a ps []:=fun s us _ hl=>by
 rw[Yb] at hl ⊢;show .of_eq (h us hl)
def zM(CX:CXT)(X:Cx)(E:XK):Prop:=∀(pins:List (Addr×Obj)) (σ:St) (H:Hp) (s:Shared) (e:Value) (s':Shared),Inv X pins σ H s->CX X.stack H s E e s'->X.xe e s'
section
variable{X:Cx}{CX:CXT}{k:Nat}{f C:Addr}{fd:FuncData}{ps:LS}{sp:Sp}{dvs:List V}{ds:List Value}{E:XK}{x m:Str}{p pos apos:Pos}{e o:Expr}{es:List Expr}{ta:TE}{t:TA}
theorem qcQ{Q:VK}(F:FnOk X.prog X.w X.K X.mg X.base CX k f fd ps sp)(d:Room k X.A)(hb:Binds X.K fd ps ds)(c:Vals dvs ds)(g:zM CX X E)
  (I:Inv X pins σ H s) (r:Vals vs us) (h:sp (vs++dvs) H Q E):wpAny (model X.prog X.w) X.A (call (.ref f) us) (EP X pins σ Q) X.xe s:=by
 have b:Vals (vs++dvs) (us++ds):=r.append c;have hl:(us++ds).length=ps.length:=by rw[<- b.length];show F.len _ _ _ _ h
 show xQ (Xf (F.run X.A X.stack s H ⟨us,[]⟩ (us++ds) (vs++dvs) Q E d I.env0 (hb s us I.kIn hl) b h) fun r s' a=>?_)
 cases r with
 | error e=>show g pins σ H s e s' I a
 | ok fl =>
  cases fl with
  | ret u=>show I.after a
  | next=>show False.elim a
  | brk=>show False.elim a
  | cont=>show False.elim a
theorem pe_call(F:FnOk X.prog X.w X.K X.mg X.base CX k f fd ps sp)(n:Room k X.A)(j:Gl X x)(m:X.mg x=some (.ref f))(l:PySem.W.keepIn X.K (.ref f)=true)(hb:Binds X.K fd ps ds)(g:Vals dvs ds)(o:zM CX X E)
  (d:PA X (e::es) t) (a:(x==("__debug__":Str))=false:=by decide) (i:starEach (e::es) X.env=(false,eval e X.env)::starEach es X.env:=by rfl) (b:(backTo pos (starEach es X.env)).any (·.1)=false:=by rfl) :
  PE X (.Call (.Name x p) (e::es) [] pos) (qde sp dvs E t):=by
 intro pins s σ H Q I h;show xF (qak I j m ?_ a);show xG (h₀:=X.base) I.ok.mod.kin l (thn (d pos pins s σ H _ I h) fun us v ⟨vs,u,c,r,q⟩=>⟨c.kIn,?_⟩) i b;show qcQ F n hb g o c r q
theorem pe_meth(z:PE X o ta)(c:Cls X.K C)(j:Meth X.K C m f)(F:FnOk X.prog X.w X.K X.mg X.base CX k f fd ps sp)(B:Room k X.A)(hb:Binds X.K fd ps ds)(y:Vals dvs ds)(G:zM CX X E)(v:PA X (e::es) t)
  (d:starEach (e::es) X.env=(false,eval e X.env)::starEach es X.env:=by rfl) (b:(backTo pos (starEach es X.env)).any (·.1)=false:=by rfl)
  (D:eval (.Call (.Attribute o m apos) (e::es) [] pos) X.env=(do
   let ov <- eval o X.env
   standAt apos.atName
   let (f,first) <- holding [ov] (getMethod ov m pl)
   callWith pos f first (backTo pos (starEach (e::es) X.env)) (backToKw pos (keywordEach [] X.env))):=by rfl) :
  PE X (.Call (.Attribute o m apos) (e::es) [] pos) (qdq C m sp dvs E ta t):=by
 intro pins s σ H Q I h;show Xn (pl:=pl) (thn (z pins s σ H _ I h) fun u M ⟨x,n,g,L,a,dx,fs,ex,p,l,q⟩=>?_) D;subst ex;obtain rfl:u=Value.ref a:=L;show qbs g p c j l ?_;show xG (first:=[.ref a]) (h₀:=X.base) I.ok.mod.kin j.kp (thn (v pos pins M σ n _ g q) fun us O ⟨vs,N,i,r,J⟩=>⟨i.kIn,?_⟩) d b;show qcQ (us:=.ref a::us) (vs:=.ref a::vs) F B hb y G i (.cons rfl r) J
theorem pe_meth0(i:PE X o ta)(c:Cls X.K C)(d:Meth X.K C m f)(F:FnOk X.prog X.w X.K X.mg X.base CX k f fd ps sp)(j:Room k X.A)(hb:Binds X.K fd ps ds)(g:Vals dvs ds)(p:zM CX X E)
  (n:eval (.Call (.Attribute o m apos) [] [] pos) X.env=(do
   let ov <- eval o X.env
   standAt apos.atName
   let (f,first) <- holding [ov] (getMethod ov m pl)
   callWith pos f first (backTo pos (starEach [] X.env)) (backToKw pos (keywordEach [] X.env))):=by rfl) :
  PE X (.Call (.Attribute o m apos) [] [] pos) (qdq C m sp dvs E ta qe6):=by
 intro pins s σ H Q I h;show Xn (pl:=pl) (thn (i pins s σ H _ I h) fun u v ⟨x,t,b,r,a,dx,fs,ex,e,l,q⟩=>?_) n;subst ex;obtain rfl:u=Value.ref a:=r;show qbs b e c d l ?_;show PySem.W.callWith_K0 (first:=[.ref a]) b.kIn d.kp (qcQ (us:=[.ref a]) (vs:=[.ref a]) F j hb g p b (.cons rfl .nil) q)
structure Mk(K:yg)(C f:Addr):Prop where
 makes:PySem.W.makesIn K C=true
 init:PySem.W.findIn K (.ref C) "__init__"=some (some (.ref f))
 fn:PySem.W.isFn K (.ref f)=true
 kp:PySem.W.keepIn K (.ref C)=true
theorem run_make{Q:VK}(M:Mk X.K C f)(F:FnOk X.prog X.w X.K X.mg X.base CX k f fd ps sp)(m:Room (k+1) X.A)(hb:Binds X.K fd ps ds)(l:Vals dvs ds)
  (n:zM CX X E) (I:Inv X pins σ H s) (r:Vals vs us)
  (h:∀ x dx,H x=none->H dx=none->dx≠x->sp (.ref x::(vs++dvs)) (upd (upd H dx (.own x)) x (.ins C dx [])) (fun v g=>v=.non/\Q (.ref x) g) E) :
  wpAny (model X.prog X.w) X.A (call (.ref C) us) (EP X pins σ Q) X.xe s:=by
 have c:=h (s.heap.objs.size+1) s.heap.objs.size (I.hok.fresh (xC _)) (I.hok.fresh (yh _)) (yJ (Xx _));have b:=Inv.made (C:=C) I;have d:Vals (V.ref (s.heap.objs.size+1)::(vs++dvs)) (Value.ref (s.heap.objs.size+1)::(us++ds)):=.cons rfl (r.append l)
 have hl:(Value.ref (s.heap.objs.size+1)::us++ds).length=ps.length:=by
  have e:=d.length;rw[F.len _ _ _ _ c] at e;show e.symm
 show xQ (make_map (f:=f) I.kIn M.makes M.init (Ye.mp M.fn) (Xf (F.run _ X.stack _ _ ⟨Value.ref (s.heap.objs.size+1)::us,[]⟩ (Value.ref (s.heap.objs.size+1)::(us++ds)) _ _ E (m.make C us [])
  (b.env0.make C us []) (hb _ (Value.ref (s.heap.objs.size+1)::us) b.kIn hl) d c) fun r s' a=>?_))
 cases r with
 | error e=>show n pins σ _ _ e s' b a
 | ok fl =>
  cases fl with
  | ret u =>
   obtain⟨v,H',i,p,j,o⟩:=b.after a;subst j;show⟨p,⟨V.ref (s.heap.objs.size+1),H',i,rfl,o⟩⟩
  | next=>show False.elim a
  | brk=>show False.elim a
  | cont=>show False.elim a
theorem pe_make(M:Mk X.K C f)(F:FnOk X.prog X.w X.K X.mg X.base CX k f fd ps sp)(m:Room (k+1) X.A)(j:Gl X x)(l:X.mg x=some (.ref C))(hb:Binds X.K fd ps ds)(g:Vals dvs ds)(n:zM CX X E)
  (d:PA X (e::es) t) (a:(x==("__debug__":Str))=false:=by decide) (i:starEach (e::es) X.env=(false,eval e X.env)::starEach es X.env:=by rfl) (b:(backTo pos (starEach es X.env)).any (·.1)=false:=by rfl) :
  PE X (.Call (.Name x p) (e::es) [] pos) (qeH C sp dvs E t):=by
 intro pins s σ H Q I h;show xF (qak I j l ?_ a);show xG (h₀:=X.base) I.ok.mod.kin M.kp (thn (d pos pins s σ H _ I h) fun us u ⟨vs,o,c,r,q⟩=>⟨c.kIn,?_⟩) i b;show run_make M F m hb g n c r q
end
section
variable{X:Cx}{CX:CXT}{k:Nat}{f C:Addr}{fd:FuncData}{ps ks:LS}{sp:Sp}{E:XK}{x m:Str}{p pos apos kpos:Pos}{e o:Expr}{es:List Expr}{kws:List Keyword}{te ta:TE}{t tk:TA}{nm:Option Str}
structure KBinds(K:yg)(fd:FuncData)(ps ks:LS)(g:List Value->List Value->List Value)(gV:List V->List V->List V):Prop where
 to:∀(s:Shared) (us ws:List Value),K.In s.heap->(g us ws).length=ps.length->BindsTo s fd ⟨us,ks.zip ws⟩ (ps.zip (g us ws))
 rel:∀{vs:List V} {us:List Value} {zs:List V} {ws:List Value},Vals vs us->Vals zs ws->Vals (gV vs zs) (g us ws)
variable{g:List Value->List Value->List Value}{gV:List V->List V->List V}
end
structure FnScope(N P:LS)(sc:Scope):Prop where
 kind:sc.kind=.function
 co:sc.isCoroutine=false
 gen:sc.isGenerator=false
 nd:N.Nodup
 pre:N.take P.length=P
 par:∀ x∈P,sc.names.lookup x=some .local\/sc.names.lookup x=some .cell
 nofree:∀ y∈sc.names,y.2≠.free
theorem fS{P:LS}(a:sc.kind=.function:=by rfl)(b:sc.isCoroutine=false:=by rfl)(c:sc.isGenerator=false:=by rfl)(d:N.Nodup:=by room)(e:N.take P.length=P:=by rfl)(f:∀ x∈P,sc.names.lookup x=some .local\/sc.names.lookup x=some .cell:=by room)(g:∀ y∈sc.names,y.2≠.free:=by room):FnScope N P sc:=⟨a,b,c,d,e,f,g⟩
theorem qb5:∀{binds:List (Str×Value)} {m:Str->Option Value},(∀ v,(x,v)∉binds)->bindL kindOf binds m x=m x
 | [],_,_=>rfl
 | (n,v)::r,m,h=>by
  unfold bindL;rw[qb5 fun w hw=>h w (yN _ hw)];split
  .have:x≠n:=by rintro rfl;show h v yY
   simp[this]
  .rfl
theorem qb6:∀{binds:List (Str×Value)} {m:Str->Option Value},(∀ v,(x,v)∉binds)->bindC kindOf binds m x=m x
 | [],_,_=>rfl
 | (n,v)::r,m,h=>by
  unfold bindC;rw[qb6 fun w hw=>h w (yN _ hw)];split
  .rfl
  .have:x≠n:=by rintro rfl;show h v yY
   simp[this]
theorem qb7{v:Value}:∀{P:LS} {vs:List Value} {i:Nat} {m:Str->Option Value},P.Nodup->P[i]?=some x->vs[i]?=some v->kindOf x=some .local ->
  bindL kindOf (P.zip vs) m x=some v
 | [],_,_,_,_,h,_,_=>by simp at h
 | _::_,[],_,_,_,_,h,_=>by simp at h
 | p::P,w::vs,0,m,nd,h1,h2,hk=>by
  simp at h1 h2;subst h1;subst h2;show bindL kindOf ((p,w)::P.zip vs) m p=_;unfold bindL;rw[qb5 fun v hv=>(yo.mp nd).1 (kX hv).1,yG hk];simp
 | p::P,w::vs,i+1,m,nd,h1,h2,hk=>by
  show bindL kindOf ((p,w)::P.zip vs) m x=_;unfold bindL;show qb7 (i:=i) (yo.mp nd).2 (by simpa using h1) (by simpa using h2) hk
theorem qb8{v:Value}:∀{P:LS} {vs:List Value} {i:Nat} {m:Str->Option Value},P.Nodup->P[i]?=some x->vs[i]?=some v->kindOf x≠some .local ->
  bindC kindOf (P.zip vs) m x=some v
 | [],_,_,_,_,h,_,_=>by simp at h
 | _::_,[],_,_,_,_,h,_=>by simp at h
 | p::P,w::vs,0,m,nd,h1,h2,hk=>by
  simp at h1 h2;subst h1;subst h2;show bindC kindOf ((p,w)::P.zip vs) m p=_;unfold bindC;rw[qb6 fun v hv=>(yo.mp nd).1 (kX hv).1,yE hk];simp
 | p::P,w::vs,i+1,m,nd,h1,h2,hk=>by
  show bindC kindOf ((p,w)::P.zip vs) m x=_;unfold bindC;show qb8 (i:=i) (yo.mp nd).2 (by simpa using h1) (by simpa using h2) hk
noncomputable def start(N:LS)(vs:List V):St:=vs.map some++List.replicate (N.length-vs.length) none
noncomputable def qeg(CX:CXT)(P:Program)(w:World)(K:yg)(mg:Str->Option Value)(base:Heap)(N:LS)(qual:Str)(scope:Scope)(f:Addr)(b:Value)(A:Around)(outer:List Env)(s:Shared)(H:Hp)(E:XK):Cx where
 prog:=P
 w:=w
 K:=K
 mg:=mg
 base:=base
 A:=A.deeper (envOfC qual scope s.heap.objs.size f b)
 N:=N
 s₀:=s
 H₀:=H
 env:=envOfC qual scope s.heap.objs.size f b
 outer:=outer
 stack:=envOfC qual scope s.heap.objs.size f b::outer
 ex:=[]
 calm:=true
 fn:=fun _=>true
 pn:=[]
 xe:=fun e s'=>wpAny (model P w) (A.deeper (envOfC qual scope s.heap.objs.size f b)) (leaving (envOfC qual scope s.heap.objs.size f b) e) (fun _ a=>CX outer H s E e a) (fun c a=>CX outer H s E c a) s'
theorem qcR(h:sc.names.lookup x=some .cell):∃ c,(cellsFrom n sc.names []).lookup x=some c:=by
 have q:=PySem.W.cellsFrom_some sc.names n [] (.inl h);show YL.mp q
theorem inv_start{K:yg}{f:Addr}{o:Value}{D:Shared}{E:XK}
  (S:FnScope N ps scope) (G:A.handled=none) (g:Env0 P w K mg base A outer s H) (hl:vs.length=ps.length) (r:Vals vs us)
  (x:InCallC s s.heap.objs.size (bindL (envOfC qual scope s.heap.objs.size f o).kindOf (ps.zip us) fun _=>none) (cellsFrom (s.heap.objs.size+1) scope.names []) (bindC (envOfC qual scope s.heap.objs.size f o).kindOf (ps.zip us) fun _=>none) D) :
  Inv (qeg CX P w K mg base N qual scope f o A outer s H E) [] (start N vs) H D:=by
 have I:ps.length<=N.length:=by have:=congrArg List.length S.pre;rw[yK] at this;lk
 obtain⟨h1,tk,rfl,B⟩:=x.done;have j:∀ b:Addr,b∉(qeg CX P w K mg base N qual scope f o A outer s H E).ex:=fun b z=>absurd (show b∈([]:LQ) from z) (by simp);show⟨⟨g.mod,S.kind,rfl,rfl,yh _,fun y z c h1 d=>?_,fun y hy=>?_,fun y c _ h=>?_,fun _=>G,Around.frames_deeper g.frames,.inr ⟨rfl,rfl⟩,fun b z=>absurd z (j b),g.bs,g.bsz,fun b _ _=>j b,fun b z=>absurd z (j b),g.funs,g.frf⟩,
  rfl,g.bare,Un.kept B,⟨_,x.toInCall.ns,fun i y v h1 d L=>?_⟩,fun y c h=>⟨_,x.cell y c h⟩,g.hok.fresh (yh _),fun y c h=>?_,fun p l=>absurd (show p∈([]:List (Addr×Obj)) from l) (by simp),g.hok.kept B,?_⟩
 .show name_of_addr x.apart (xU h1) (xU d)
 .have hy:scope.names.lookup y=some .cell\/scope.names.lookup y=some .free:=hy;rcases hy with hy | hy
  .show qcR hy
  .show absurd rfl (S.nofree _ (xU hy))
 .show yT (x.above y c (xU h))
 .have t:i<vs.length:=by
   unfold start at d;by_cases t:i<vs.length
   .show t
   .rw [yB (by simpa using t)] at d;rw[XH] at d;split at d<;>cases d
  have F:vs[i]?=some v:=by
   unfold start at d;rw[yF (by simpa using t),yd] at d
   cases e:vs[i]? with
   | none=>rw[e] at d;cases d
   | some a=>rw[e] at d;cases d;rfl
  obtain⟨u,C,J⟩:=r.get F
  have l:ps[i]?=some y:=by
   rw[<- S.pre,List.getElem?_take_of_lt (by lk)];show h1
  have m:ps.Nodup:=by rw[<- S.pre];show S.nd.sublist (XR _ _)
  show⟨u,J,?_⟩;rcases S.par y (ye l) with k | k
  .show .inl ⟨k,qb7 m l C k⟩
  .obtain⟨c,e⟩:=qcR (n:=s.heap.objs.size+1) k;show .inr ⟨.inl k,c,e,?_⟩;have q:=x.cell y c e;rw[qb8 m l C (by show scope.names.lookup y≠_;rw[k];decide)] at q;show q
 .show g.hok.fresh (yT (x.above y c (xU h)))
 .unfold start;show _=N.length;rw[yt,ya,YX];lk
theorem qe7{K:yg}{k:Nat}{f:Addr}{name:Str}{c:Arguments}{M kV j O a ct oc:Value}{L od:Option Addr}
  {D:Array (Option Value)} {sp:Sp} (lk:K.lookup f=some ⟨oc,od,.func (PySem.W.fnOf name qual c body scope M kV j O L a ct),D⟩) (z:PySem.W.codeIn K a qual=true) (S:FnScope N ps scope)
  (len:∀ vs H Q E,sp vs H Q E->vs.length=ps.length)
  (g:∀(A:Around) (outer:List Env) (s:Shared) (H:Hp) (vs:List V) (Q:VK) (E:XK),Room k (A.deeper (envOfC qual scope s.heap.objs.size f a))->sp vs H Q E ->
   ∃ t,PSs (qeg CX P w K mg base N qual scope f a A outer s H E) body t/\t { nx:=fun _ H'=>Q .non H',rt:=Q } (start N vs) H) :
  FnOk P w K mg base CX (k+1) f (PySem.W.fnOf name qual c body scope M kV j O L a ct) ps sp:=by
 show⟨len,fun A outer s H args us vs Q E B l hb r p=>?_⟩;have hl:=len _ _ _ _ p;have G:K.In s.heap:=l.mod.kin.keeps fun b o e=>(l.bs b o e).1;have C:s.heap.NoLimit:=l.mod.nolimit.keeps fun b o e=>(l.bs b o e).1
 have h:∀ y∈ps.zip us,scope.names.lookup y.1=some .local\/(scope.names.lookup y.1=some .cell/\((cellsFrom (s.heap.objs.size+1) scope.names []).lookup y.1).isSome=true):=fun⟨n,v⟩ Z=>by
  rcases S.par n (kX Z).1 with q | q
  .show .inl q
  .show .inr ⟨q,PySem.W.cellsFrom_some _ _ _ (.inl q)⟩
 show codeAny_call_function B.depth (G _ _ lk) rfl S.co S.gen rfl (PySem.W.codeRec_of G z) (hb _ _ _ _ ?_);show wpAny_newFunctionEnv_cells S.kind h fun env U R x=>?_;subst U;show⟨C.keeps x.toInCall.keep,codeAny_func ?_⟩;obtain⟨t,Y,X⟩:=g A outer s H vs Q E (B.deeper _) p;have I:Inv (qeg CX P w K mg base N qual scope f a A outer s H E) [] (start N vs) H R:=inv_start S B.hd l hl r x;show YE (Y [] R (start N vs) H _ I X) (fun T s' i=>?_) fun e s' i=>i
 have m:∀{d:St} {H':Hp} {v:V} {u:Value},Inv (qeg CX P w K mg base N qual scope f a A outer s H E) [] d H' s'->RelV v u->Q v H'->CE outer P w H s Q u s':=
  fun{d H' v u} J F q=>⟨v,H',J.os,J.bare,J.base,J.hok,F,q⟩
 cases T with
 | ret u =>
  obtain⟨v,d,H',J,F,q⟩:=i;show m J F q
 | next =>
  obtain⟨d,H',J,q⟩:=i;show m (v:=V.non) (u:=Value.none) J rfl q
 | brk =>
  obtain⟨_,_,_,q⟩:=i;show False.elim q
 | cont =>
  obtain⟨_,_,_,q⟩:=i;show False.elim q
section
variable{X:Cx}{x:Str}{p pos:Pos}{e:Expr}{es:List Expr}{t:TA}{id T:String}{r:List V->Hp->VK->Prop}
def tCB(r:List V->Hp->VK->Prop)(t:TA):TE:=fun σ H Q=>t σ H fun vs a=>r vs a Q
theorem qr(hc:zL X (.builtin id) r)(i:Gl X x)(j:X.mg x=none)(hv:bootBuiltins x=some (.builtin id))(f:PA X (e::es) t)(l:x≠"__name__":=by decide)(a:(x==("__debug__":Str))=false:=by decide)
  (g:starEach (e::es) X.env=(false,eval e X.env)::starEach es X.env:=by rfl) (b:(backTo pos (starEach es X.env)).any (·.1)=false:=by rfl):PE X (.Call (.Name x p) (e::es) [] pos) (tCB r t):=by
 intro pins s σ H Q I h;show xF (qaR I i j hv ?_ l a);show PyProof.Rows.callWith_builtin1 (thn (f pos pins s σ H _ I h) fun us o ⟨vs,c,d,n,m⟩=>hc pins o σ c vs us Q d n m) g b
theorem qat(hc:zL X (.type T) r)(i:Gl X x)(j:X.mg x=none)(hv:bootBuiltins x=some (.type T))(f:PA X (e::es) t)(l:x≠"__name__":=by decide)(a:(x==("__debug__":Str))=false:=by decide)
  (g:starEach (e::es) X.env=(false,eval e X.env)::starEach es X.env:=by rfl) (b:(backTo pos (starEach es X.env)).any (·.1)=false:=by rfl):PE X (.Call (.Name x p) (e::es) [] pos) (tCB r t):=by
 intro pins s σ H Q I h;show xF (qaR I i j hv ?_ l a);show Y7 (thn (f pos pins s σ H _ I h) fun us o ⟨vs,c,d,n,m⟩=>hc pins o σ c vs us Q d n m) g b
end
end L2
namespace HT
open PySem PyProof.Rows
variable{hi lo:Option Int}{sl t:Addr}{vl vu:Value}
noncomputable def lexLt:LX->LX->Bool
 | [],[]=>false
 | [],_::_=>true
 | _::_,[]=>false
 | x::xs,y::ys=>if x=y then lexLt xs ys else decide (x<y)
section
open PySem.SeqAt
open PySem.AutoSeq1 (wpAny_loadPart')
open PySem.MeetsSeq PySem.MeetsSeq2 PySem.MeetsSeq3
end
section
variable{prog:Program}{w:World}{A:Around}{E:Value->Shared->Prop}{s:Shared}
theorem cat_tup{b:Addr}{vs a:List Value}{Q:Value->Shared->Prop}(r:IsTup s.heap t vs.toArray)(hb:IsTup s.heap b a.toArray)(hv:vs≠[])
  (h1:a=[]->Q (.ref t) s) (q:a≠[]->Q (.ref s.heap.objs.size) { s with heap:=s.heap.push { cls:=.type "tuple",data:=.seq (vs++a).toArray } })
  (hsz:vs.length+a.length<=sizeLine):wpAny (model prog w) A (binaryOp .Add (.ref t) (.ref b)) Q E s:=by
 obtain⟨⟨cls,m,data,sl⟩,i,hc,n,o⟩:=id r;obtain⟨⟨l,d,j,h⟩,c,f,p,g⟩:=id hb;simp only at hc o f g;subst hc o f g;have e:vs.toArray++a.toArray=(vs++a).toArray:=by simp
 by_cases hw:a=[]
 .show concat_meets ⟨_,i,rfl⟩ ⟨_,c,rfl⟩ noFill_tuple_add seq_tuple_add PySem.F.slot_tuple_add PySem.F.entry_tuple_add (PySem.F.args_tuple_add_2 _ _)
   (tuple_addW1 t b vs.toArray a.toArray n p m d sl h (by simpa using hv) (by simp[hw])) ⟨i,c,h1 hw⟩
 .show concat_meets ⟨_,i,rfl⟩ ⟨_,c,rfl⟩ noFill_tuple_add seq_tuple_add PySem.F.slot_tuple_add PySem.F.entry_tuple_add (PySem.F.args_tuple_add_2 _ _)
   (tuple_addW2 t b vs.toArray a.toArray n p m d sl h (by simpa using hv) (by simpa using hw) (by rw[yA,yA];show hsz)) ⟨i,c,?_⟩
  rw[e];show q hw
noncomputable def sIx(n d:Nat):Option Int->Nat
 | none=>d
 | some v=>if v<0 then(v+(n:Int)).toNat else min v.toNat n
theorem sIx_none(n d:Nat):sIx n d none=d:=rfl
theorem sIx_nat(n d k:Nat):sIx n d (some (k:Int))=min k n:=by
 show(if (k:Int)<0 then((k:Int)+(n:Int)).toNat else min (k:Int).toNat n)=min k n;rw[yE (by lk),YB]
theorem sIx_le(n d:Nat)(a:d<=n)(o:Option Int):sIx n d o<=n:=by
 cases o with
 | none=>show a
 | some v =>
  show(if v<0 then(v+(n:Int)).toNat else min v.toNat n)<=n;by_cases hv:v<0
  .rw [yG hv];lk
  .rw [yE hv];show kJ _ _
theorem qdr(v:Int)(n d:Nat):(if v<0 then max (v+(n:Int)) 0 else min v (n:Int))=((sIx n d (some v):Nat):Int):=by
 show(if v<0 then max (v+(n:Int)) 0 else min v (n:Int))=(((if v<0 then(v+(n:Int)).toNat else min v.toNat n):Nat):Int);by_cases hv:v<0
 .simp only[yG hv];lk
 .simp only[yE hv];lk
theorem adjust_gen(lo hi:Option Int)(n:Nat):Builtin.Slice.sliceAdjust lo hi 1 (n:Int)=(((sIx n 0 lo:Nat):Int),((sIx n n hi:Nat):Int)):=by
 have h1:¬ ((1:Int)<0):=by lk
 unfold Builtin.Slice.sliceAdjust;simp only[h1,XS];show X6 ?_ ?_
 .cases lo with
  | none=>rfl
  | some v=>show qdr v n 0
 .cases hi with
  | none=>rfl
  | some v=>show qdr v n n
theorem places_gen(i j:Nat):Builtin.Slice.slicePlaces (i:Int) (j:Int) 1=j-i:=by
 unfold Builtin.Slice.slicePlaces;have h1:(1:Int)>0:=by lk
 simp only[h1,Xp,Kc];split<;>lk
theorem qbt{v:Value}{o:Option Int}{Q:Option Int->Shared->Prop}(p:IsPart v o)(h:Q o s):wpAny (model prog w) A (Builtin.Slice.slicePartIndex v) Q E s:=by
 cases p with
 | none=>show slicePart_none h
 | int i t=>show slicePart_int h
theorem sliceApplied_gen{n:Nat}{Q:Int×Int×Nat->Shared->Prop}(d:s.heap.IsSliceOf sl vl vu .none)(pl:IsPart vl lo)(e:IsPart vu hi)
  (h:Q (((sIx n 0 lo:Nat):Int),1,sIx n n hi-sIx n 0 lo) s):wpAny (model prog w) A (Builtin.Slice.sliceApplied (.ref sl) (pure (n:Int))) Q E s:=by
 obtain⟨f,b,c,a⟩:=id d;unfold Builtin.Slice.sliceApplied Builtin.Slice.sliceFields;show yr (yr (xk b a (x:=vl) rfl (yr (xk b a (x:=vu) rfl (yr (xk b a (x:=.none) rfl (yw ?_)))))));show yr (slicePart_none ?_);show wpAny _ _ (if ((1:Int)==0)=true then _ else _) _ _ s;rw[yE (by decide)];show yr (qbt pl (yr (qbt e (yr (yw ?_)))));show wpAny _ _ (match Builtin.Slice.sliceAdjust lo hi 1 (n:Int) with | (lo,hi)=>pure (lo,(1:Int),Builtin.Slice.slicePlaces lo hi 1)) _ _ s;rw[adjust_gen lo hi n];show wpAny _ _ (pure (((sIx n 0 lo:Nat):Int),(1:Int),Builtin.Slice.slicePlaces ((sIx n 0 lo:Nat):Int) ((sIx n n hi:Nat):Int) 1)) _ _ s;rw[places_gen];show yw h
theorem pick_gen(xs:Array Value)(i k:Nat):((List.range k).filterMap fun(m:Nat)=>xs[((i:Int)+(m:Int)*1).toNat]?).toArray=((xs.toList.drop i).take k).toArray:=by
 have e:(fun(m:Nat)=>xs[((i:Int)+(m:Int)*1).toNat]?)=fun m=>xs[i+m]?:=by
  funext m;have:((i:Int)+(m:Int)*1).toNat=i+m:=by lk
  rw[this]
 rw[e];have:=pick_run xs i k;rw[List.filterMap_map] at this;have a:((fun x=>xs[x]?) ∘ fun x=>i+x)=fun m=>xs[i+m]?:=rfl;rw[a] at this;rw[this]
theorem getItem_tuple_cut{a:Array Value}{Q:Value->Shared->Prop}(c:IsTup s.heap t a)(i:s.heap.IsSliceOf sl vl vu .none)(pl:IsPart vl lo)(n:IsPart vu hi)
  (hw:¬ (sIx a.size 0 lo=0/\sIx a.size a.size hi=a.size))
  (h:Q (.ref s.heap.objs.size) { s with heap:=s.heap.push { cls:=.type "tuple",data:=.seq ((a.toList.drop (sIx a.size 0 lo)).take (sIx a.size a.size hi-sIx a.size 0 lo)).toArray } })
  (hsz:a.size<=sizeLine):wpAny (model prog w) A (getItem (.ref t) (.ref sl)) Q E s:=by
 have b:sizeOk (.seq ((a.toList.drop (sIx a.size 0 lo)).take (sIx a.size a.size hi-sIx a.size 0 lo)).toArray):=by
  show((a.toList.drop (sIx a.size 0 lo)).take (sIx a.size a.size hi-sIx a.size 0 lo)).toArray.size<=sizeLine;rw[yA,yK,Yp,YV];lk
 have o:sIx a.size a.size hi<=a.size:=sIx_le _ _ (yh _) hi;obtain⟨l,g,e,j⟩:=id i;have d:s.TypeIs (.ref sl) "slice":=⟨l,g,e⟩;unfold getItem
 try with_reducible show Yn ?_
 first | show yr (yw ?_) | skip
 show yr (wpAny_sequenceKey c.typeIs (by decide) ?_);show yr (XI (name:=Str.ofString "__getitem__") c.typeIs xS
  (X2 xS c.typeIs entry_tuple_getitem ?_ (args_tuple_getitem _ _)))
 show wpAny _ _ (Builtin.Tuple.tupleItemsOf (.ref t)>>=_) _ _ s;show yr (tupleItemsOf_ c ?_);show yr (wpAny_typeOf d ?_);rw[yG (by decide)];show yr (sliceApplied_gen i pl n ?_)
 have f:¬ ((((sIx a.size 0 lo:Nat):Int)==0&&(1:Int)==1&&(sIx a.size a.size hi-sIx a.size 0 lo)==a.size)=true):=by
  intro q;rw[Yh,Yh] at q;have p:((sIx a.size 0 lo:Nat):Int)=0:=eq_of_beq q.1.1;have r:sIx a.size a.size hi-sIx a.size 0 lo=a.size:=eq_of_beq q.2;show hw ⟨by lk,by lk⟩
 show wpAny _ _ (if (((sIx a.size 0 lo:Nat):Int)==0&&(1:Int)==1&&(sIx a.size a.size hi-sIx a.size 0 lo)==a.size)=true then _ else _) _ _ s;rw[yE f,pick_gen]
 first
  | show yr (m:=Builtin.Tuple.tupleExact _) (xP (yw ⟨_,rfl,yw h⟩) b)
  | show yr (m:=Builtin.Tuple.tupleExact _) (xP (yr (yw (yw ⟨_,rfl,yw h⟩))) b)
  | show yr (yr (m:=Builtin.Tuple.tupleExact _) (xP (yw (yw ⟨_,rfl,yw h⟩)) b))
  | show yr (yr (m:=Builtin.Tuple.tupleExact _) (xP (yw ⟨_,rfl,yw h⟩) b))
end
end HT
namespace L2
open PySem PySem.Spec PyProof.Rows
variable{A:Around}{H H':Hp}{P:Program}{X:Cx}{a p:Addr}{h':Heap}{i:Int}{its its' us:List Value}{j n t':Nat}{kvs:List (List Key×V)}{o:Option V}{pins:List (Addr×Obj)}{r:R2}{s:Shared}{u v:Value}{w:World}{x y:V}{xs:List V}{α:Type}{σ:St}
abbrev TO:=St->Hp->(Option Int->Hp->Prop)->Prop
def PO(X:Cx)(e:Option Expr)(t:TO):Prop:=
 ∀(pins:List (Addr×Obj)) (s:Shared) (σ:St) (H:Hp) (Q:Option Int->Hp->Prop),Inv X pins σ H s->t σ H Q ->
  wpAny (model X.prog X.w) X.A (evalPart e X.env) (fun u s'=>∃ o H',Inv X pins σ H' s'/\IsPart u o/\Q o H') X.xe s
def qds:TO:=fun _ H Q=>Q none H
def qe8(t:TE):TO:=fun σ H Q=>t σ H fun x a=>∃ i,x=.int i/\Q (some i) a
section
variable{X:Cx}{e:Expr}{te:TE}{lo hi:Option Expr}{tl th:TO}{pos p2:Pos}
theorem j4:PO X none qds:=by
 intro pins s σ H Q I h;rw[evalPart_none];show yw ⟨none,H,I,.none,h⟩
theorem jr(h:PE X e te):PO X (some e) (qe8 te):=by
 intro pins s σ H Q I hw;rw[evalPart_some];show thn (h pins s σ H _ I hw) fun u f ⟨x,a,b,d,c⟩=>?_;obtain⟨i,rfl,q⟩:=c;obtain⟨t,rfl⟩:=d;show⟨some i,a,b,.int i t,q⟩
def SlR(X:Cx)(r:V->Option Int->Option Int->Hp->VK->Prop):Prop:=
 ∀(pins:List (Addr×Obj)) (s:Shared) (σ:St) (H:Hp) (x:V) (v b c:Value) (lo hi:Option Int) (a:Addr) (Q:VK),Inv X pins σ H s->RelV x v->s.heap.IsSliceOf a b c .none->IsPart b lo->IsPart c hi->r x lo hi H Q ->
  ∃ T id,typeLookup (.type T) "__getitem__"=pure (some (.builtin id))/\s.TypeIs v T/\wpAny (model X.prog X.w) X.A (getItem v (.ref a)) (EP X pins σ Q) X.xe s
def tSl(r:V->Option Int->Option Int->Hp->VK->Prop)(te:TE)(tl th:TO):TE:=fun σ H Q=>te σ H fun x a=>tl σ a fun l b=>th σ b fun u c=>r x l u c Q
theorem jt{r:V->Option Int->Option Int->Hp->VK->Prop}(z:SlR X r)(t:PE X e te)(hl:PO X lo tl)(C:PO X hi th):PE X (.Subscript e (.Slice lo hi none p2) pos) (tSl r te tl th):=by
 intro pins s σ H Q I h;show Subscript_ (thn (t pins s σ H _ I h) fun v K ⟨x,g,j,J,E⟩=>?_);show wpAny_Slice (thn (hl pins K σ g _ j E) fun c L ⟨l,i,m,pl,F⟩=>thn (C pins L σ i _ m F) fun d a ⟨u,f,n,D,G⟩=>?_);rw[evalPart_none];show yw ?_;have o:Inv X pins σ f { a with heap:=a.heap.push { cls:=.type "slice",data:=.fields #[c,d,.none] } }:=n.kept (t':=a.toks) fun b M q=>yu _ q;obtain⟨T,id,p,B,y⟩:=z pins { a with heap:=a.heap.push { cls:=.type "slice",data:=.fields #[c,d,.none] } } σ f x v c d l u a.heap.objs.size Q o J (Heap.IsSliceOf.new ..) pl D G;show wpAny (model X.prog X.w) X.A (subscriptTail e (.Slice lo hi none p2) v (.ref a.heap.objs.size)) (EP X pins σ Q) X.xe { a with heap:=a.heap.push { cls:=.type "slice",data:=.fields #[c,d,.none] } };show tail_any (ops:=[.ref a.heap.objs.size,v]) B p y (by with_unfolding_all rfl)
noncomputable def qct(xs:List V)(lo hi:Option Int):List V:=(xs.drop (HT.sIx xs.length 0 lo)).take (HT.sIx xs.length xs.length hi-HT.sIx xs.length 0 lo)
theorem qa7(xs:List V)(lo hi:Option Int):(qct xs lo hi).length<=xs.length:=by
 unfold qct;rw[yK,Yp];lk
inductive rSlT(K:yg)(x:V)(lo:Option Int)(hi:Option Int)(H:Hp)(Q:VK):Prop|mk (a xs:_) (_:x=.ref a) (_:SqT K H a xs) (_:¬ (HT.sIx xs.length 0 lo=0/\HT.sIx xs.length xs.length hi=xs.length)) (_:∀ p,H p=none->Q (.ref p) (upd H p (.tup (qct xs lo hi))))
theorem sl_tup:SlR X (rSlT X.K):=by
 intro pins s σ H x v m n lo hi l Q I i e pl g h;obtain⟨a,xs,rfl,f,hw,q⟩:=h;cases i;obtain⟨its,r,d,hz⟩:=I.tuple f;have c:its.toArray.size=xs.length:=by rw[yA];show r.length.symm
 show⟨"tuple",_,xS.lookup,d.typeIs,?_⟩;show HT.getItem_tuple_cut d e pl g (by rw[c];show hw) ?_ (by rw[c];show hz);rw[c];show⟨.ref s.heap.objs.size,_,I.laid (t':=s.toks) (o:=.tup (qct xs lo hi)) (fun b j q=>yu _ q) (yh _) ?_,rfl,q _ (I.hok.fresh (yh _))⟩;show⟨yi (qa7 xs lo hi) hz,_,(r.drop (HT.sIx xs.length 0 lo)).take (HT.sIx xs.length xs.length hi-HT.sIx xs.length 0 lo),IsTup.new _ _⟩
inductive rLtT(K:yg)(x:V)(y:V)(H:Hp)(Q:VK):Prop|mk (a b ns ms:_) (_:x=.ref a) (_:y=.ref b) (_:SqT K H a (ns.map V.int)) (_:SqT K H b (ms.map V.int)) (_:Q (.bl (HT.lexLt ns ms)) H)
inductive rCatT(K:yg)(x:V)(y:V)(H:Hp)(Q:VK):Prop|mk (a b xs ys:_) (_:x=.ref a) (_:y=.ref b) (_:SqT K H a xs) (_:SqT K H b ys) (_:xs≠[]) (_:xs.length+ys.length<=sizeLine) (_:(ys=[]->Q (.ref a) H)) (_:(ys≠[]->∀ p,H p=none->Q (.ref p) (upd H p (.tup (xs++ys)))))
theorem Vals.nil_iff(r:Vals xs us):us=[]↔xs=[]:=by
 cases r with
 | nil=>simp
 | cons _ _=>simp
theorem op_catT:OpR X (binaryOp .Add) (rCatT X.K):=by
 intro pins s σ H x y v u Q I m n h;obtain⟨a,b,xs,ys,rfl,rfl,f,hb,g,hz,j,l⟩:=h;cases m;cases n;obtain⟨its,d,i,_⟩:=I.tuple f;obtain⟨e,c,p2,_⟩:=I.tuple hb;show HT.cat_tup i p2 (fun z=>g (d.nil_iff.mp z)) (fun z=>⟨.ref a,H,I,rfl,j (c.nil_iff.mp z)⟩) (fun z=>?_) (by rw[<- d.length,<- c.length];show hz);show⟨.ref s.heap.objs.size,_,I.laid (t':=s.toks) (o:=.tup (xs++ys)) (fun b p q=>yu _ q) (yh _) ?_,rfl,l (fun w=>z (c.nil_iff.mpr w)) _ (I.hok.fresh (yh _))⟩;show⟨by rw[yt];show hz,_,d.append c,IsTup.new _ _⟩
end
noncomputable def ixN(n:Nat)(i:Int):Option Nat:=if 0<=i then(if i<n then some i.toNat else none) else if -(n:Int)<=i then some (i+n).toNat else none
noncomputable def atI{α:Type}(xs:List α)(i:Int):Option α:=(ixN xs.length i).bind fun j=>xs[j]?
theorem qdt(h:ixN n i=some j):seqIndex? i n=some j/\j<n/\-(n:Int)<=i/\i<n:=by
 unfold ixN at h;by_cases a:0<=i
 .rw [yG a] at h;by_cases h1:i<n
  .rw [yG h1] at h;have e:i.toNat=j:=ym h;show⟨by rw[seqIndex_of a h1,e],by lk,by lk,h1⟩
  .rw [yE h1] at h;cases h
 .rw [yE a] at h;by_cases h1:-(n:Int)<=i
  .rw [yG h1] at h;have e:(i+n).toNat=j:=ym h;show⟨by rw[seqIndex_neg (by lk) h1,e],by lk,h1,by lk⟩
  .rw [yE h1] at h;cases h
theorem qcx{xs:List α}{v:α}(h:atI xs i=some v):∃ j,seqIndex? i xs.length=some j/\xs[j]?=some v/\j<xs.length/\-(xs.length:Int)<=i/\i<xs.length:=by
 unfold atI at h
 cases e:ixN xs.length i with
 | none=>rw[e] at h;cases h
 | some j =>
  rw[e] at h;obtain⟨h1,a,b,c⟩:=qdt e;show⟨j,h1,h,a,b,c⟩
theorem qx{xs:List α}{v:α}(h:xs[j]?=some v):atI xs (j:Int)=some v:=by
 have a:j<xs.length:=(yc.mp h).1
 have e:ixN xs.length (j:Int)=some j:=by
  unfold ixN;rw[yG (by lk),yG (by lk)];simp
 unfold atI;rw[e];show h
theorem atI_last(xs:List α)(v:α):atI (xs++[v]) (-1)=some v:=by
 have hl:(xs++[v]).length=xs.length+1:=by simp
 have e:ixN (xs++[v]).length (-1)=some xs.length:=by
  unfold ixN;rw[hl,yE (by decide),yG (by lk)]
  congr 1
  lk
 unfold atI;rw[e];show(xs++[v])[xs.length]?=some v;simp
def PlainIx(b:Expr):Prop:=∀ o i,subscripted b false o i=operate [o,i] (getItem o i)
def IxR(X:Cx)(r:R2):Prop:=
 ∀(b a:Expr) (pins:List (Addr×Obj)) (s:Shared) (σ:St) (H:Hp) (x y:V) (v u:Value) (Q:VK),Inv X pins σ H s->RelV x v->RelV y u->r x y H Q ->
  subscripted a false v u=operate [v,u] (getItem v u)->wpAny (model X.prog X.w) X.A (subscriptTail b a v u) (EP X pins σ Q) X.xe s
def MtR(X:Cx)(id:String)(r:V->List V->Hp->VK->Prop):Prop:=
 ∀(pins:List (Addr×Obj)) (s:Shared) (σ:St) (H:Hp) (x:V) (xs:List V) (v:Value) (us:List Value) (Q:VK),Inv X pins σ H s->RelV x v->Vals xs us->r x xs H Q ->
  wpAny (model X.prog X.w) X.A (call (.builtin id) (v::us)) (EP X pins σ Q) X.xe s
section
variable{X:Cx}{a b:Expr}{ta tb:TE}{pos:Pos}
theorem IxR.or{d:R2}(h:IxR X r)(h':IxR X d):IxR X (fun x y H Q=>r x y H Q\/d x y H Q):=by
 intro b a pins s σ H x y v u Q I e f q c;rcases q with q | q
 .show h b a pins s σ H x y v u Q I e f q c
 .show h' b a pins s σ H x y v u Q I e f q c
theorem qt(f:IxR X r)(e:PE X a ta)(hb:PE X b tb)(g:PlainIx b):PE X (.Subscript a b pos) (tOp r ta tb):=by
 intro pins s σ H Q I h;show Subscript_ (qfz e hb I h fun v u l x y c d i j q=>f a b pins l σ c x y v u Q d i j q (g _ _))
inductive rIxL(K:yg)(x:V)(y:V)(H:Hp)(Q:VK):Prop|mk (p xs i v:_) (_:x=.ref p) (_:y=.int i) (_:SqL K H p xs) (_:atI xs i=some v) (_:Q v H)
inductive rIxT(K:yg)(x:V)(y:V)(H:Hp)(Q:VK):Prop|mk (p xs i v:_) (_:x=.ref p) (_:y=.int i) (_:SqT K H p xs) (_:atI xs i=some v) (_:Q v H)
inductive rIxS(x:V)(y:V)(H:Hp)(Q:VK):Prop|mk (z i c:_) (_:x=.str z) (_:y=.int i) (_:z.length<=sizeLine) (_:atI z.cps.toList i=some c) (_:Q (.str ⟨#[c]⟩) H)
theorem ix_list:IxR X (rIxL X.K):=by
 intro e d pins s σ H x y v u Q I C D h l;obtain⟨p,xs,i,z,rfl,rfl,B,A,q⟩:=h;cases C;obtain⟨t,rfl⟩:=D;obtain⟨its,r,pl,hz⟩:=I.list B;obtain⟨j,h1,m,E,n,o⟩:=qcx A;obtain⟨w,f,c⟩:=r.get m;have hl:=r.length;have F:=qbr;have a:EP X pins σ Q w s:=⟨z,H,I,c,q⟩;by_cases g:0<=i
 .have b:i.toNat=j:=by
   rw[seqIndex_of g o] at h1;show ym h1
  show item_listR pl.isList g (by lk) (by rw[b];simpa using f) a l
 .have b:(i+(its.toArray.size:Int)).toNat=j:=by
   rw[seqIndex_neg (by lk) n] at h1;rw[yA,<- hl];show ym h1
  show subscriptTail_builtinR (x:=w) pl.isList.typeIs kz.lookup
   (wpAny_getItem_list_neg (Q:=fun r s'=>r=w/\EP X pins σ Q r s') pl.isList (by lk) (by rw[yA]<;>lk) (by lk) (by rw[b];simpa using f) ⟨rfl,a⟩) l
theorem ix_tup:IxR X (rIxT X.K):=by
 intro d c pins s σ H x y v u Q I n o h m;obtain⟨p,xs,i,z,rfl,rfl,l,g,q⟩:=h;cases n;obtain⟨t,rfl⟩:=o;obtain⟨its,r,pl,hz⟩:=I.tuple l;obtain⟨j,h1,f,A,B,C⟩:=qcx g;obtain⟨w,e,b⟩:=r.get f;have hl:=r.length;have D:=qbr;have a:EP X pins σ Q w s:=⟨z,H,I,b,q⟩;show subscriptTail_builtinR (x:=w) pl.typeIs slot_tuple_getitem.lookup
  (getItem_tuple (j:=j) (Q:=fun r s'=>r=w/\EP X pins σ Q r s') pl (by lk) (by lk) (by rw[yA,<- hl];show h1) (by simpa using e) ⟨rfl,a⟩) m
theorem ix_str:IxR X rIxS:=by
 intro b a pins s σ H x y v u Q I o p h n;obtain⟨z,i,c,rfl,rfl,hz,m,q⟩:=h;obtain⟨t,rfl⟩:=o;obtain⟨t',rfl⟩:=p;obtain⟨j,h1,f,r,g,l⟩:=qcx m;have hl:z.cps.toList.length=z.length:=by simp[Str.length]
 rw[hl] at h1 g l;have w:=qbr
 show tail_any (typeIs_str s z t) slot_str_getitem.lookup (getItem_str (c:=c) (by
  have d:decide (i < -(2 ^ 63:Int))=false:=yl (by lk);have e:decide (i ≥ 2 ^ 63)=false:=yl (by lk);rw[d,e,kF]) (by rw[h1];simpa using f) ⟨.str ⟨#[c]⟩,H,I.tok _,⟨_,rfl⟩,q⟩) n
def rIx(K:yg):R2:=fun x y H Q=>rIxL K x y H Q\/rIxT K x y H Q\/rIxS x y H Q
theorem ix_seq:IxR X (rIx X.K):=ix_list.or (ix_tup.or ix_str)
theorem mapSeq_set(its:List Value)(n j:Nat)(u:Value):Obj.mapSeq (·.setIfInBounds j u) { cls:=.type "list",data:=.seq its.toArray n }={ cls:=.type "list",data:=.seq (its.set j u).toArray n }:=by
 simp[Obj.mapSeq]
theorem Inv.lst(I:Inv X pins σ H s)(h:H p=some (.lst xs)) :
  ∃(its:List Value) (n:Nat),Vals xs its/\s.heap.get? p=some { cls:=.type "list",data:=.seq its.toArray n }/\xs.length<=sizeLine:=by
 obtain⟨z,its,n,r,e⟩:=I.hok p _ h;show⟨its,n,r,e,z⟩
theorem Inv.lstUpd{ys:List V}{a:Nat}{f:Obj->Obj}(I:Inv X pins σ H s)(h:H p=some (.lst xs))
  (d:s.heap.get? p=some { cls:=.type "list",data:=.seq its.toArray n }) (c:f { cls:=.type "list",data:=.seq its.toArray n }={ cls:=.type "list",data:=.seq its'.toArray a }) (r:Vals ys its') (hz:ys.length<=sizeLine) (t:Nat) :
  Inv X pins σ (upd H p (.lst ys)) { s with heap:=s.heap.update p f,toks:=t }:=by
 have e:(s.heap.update p f).get? p=some { cls:=.type "list",data:=.seq its'.toArray a }:=by
  rw[Yy f d (by rw[c]<;>rfl),c]
 show I.write (x:=p) (e:=p) (by rw[h];trivial) (.inl rfl) (fun b u hb q=>(YC _ _ (Yd hb)).trans q) ⟨_,e⟩ ?_;show⟨hz,its',a,r,e⟩
inductive rSetL(o:V)(i:V)(v:V)(H:Hp)(Q:(Hp->Prop)):Prop|mk (p xs k j:_) (_:o=.ref p) (_:i=.int k) (_:H p=some (.lst xs)) (_:ixN xs.length k=some j) (_:Q (upd H p (.lst (xs.set j v))))
theorem set_list:qfy X rSetL:=by
 intro pins s σ H o i v B A u Q I w m x h;obtain⟨p,xs,k,j,rfl,rfl,g,l,q⟩:=h;cases w;obtain⟨t,rfl⟩:=m;obtain⟨its,n,r,b,hz⟩:=I.lst g;obtain⟨h1,y,e,f⟩:=qdt l;have hl:=r.length;have z:=qbr
 have c:Inv X pins σ (upd H p (.lst (xs.set j v))) { s with heap:=s.heap.update p (Obj.mapSeq (·.setIfInBounds j u)) }:=
  I.lstUpd g b (mapSeq_set its n j u) (r.set x j) (by rw[kc];show hz) s.toks
 by_cases d:0<=k
 .have a:k.toNat=j:=by
   rw[seqIndex_of d f] at h1;show ym h1
  show PySem.W.ki_setAt b d (by lk) (by rw[yA,<- hl];show f) (by rw[a];show⟨_,c,q⟩)
 .have a:(k+(its.toArray.size:Int)).toNat=j:=by
   rw[seqIndex_neg (by lk) e] at h1;rw[yA,<- hl];show ym h1
  show PySem.W.ki_setBack b (by lk) (by rw[yA,<- hl];show e) (by lk) (by rw[a];show⟨_,c,q⟩)
theorem slice_bounds(lo a:Option Int)(n:Nat):(sliceBounds lo a none n).1=((HT.sIx n 0 lo:Nat):Int)/\(sliceBounds lo a none n).2.1=((HT.sIx n n a:Nat):Int)/\(sliceBounds lo a none n).2.2=1:=by
 show⟨?_,?_,rfl⟩
 .cases lo with
  | none=>simp[sliceBounds,HT.sIx]
  | some i =>
   simp only[sliceBounds,HT.sIx,Option.getD_none,show(1:Int)>0 by decide,Xp];by_cases h:i<0
   .simp only[h,Xp]<;>lk
   .simp only[h,XS]<;>lk
 .cases a with
  | none=>simp[sliceBounds,HT.sIx]
  | some i =>
   simp only[sliceBounds,HT.sIx,Option.getD_none,show(1:Int)>0 by decide,Xp];by_cases h:i<0
   .simp only[h,Xp]<;>lk
   .simp only[h,XS]<;>lk
theorem slicePick_cut(its:List Value)(lo a:Option Int):slicePick its.toArray lo a none=((its.drop (HT.sIx its.length 0 lo)).take (HT.sIx its.length its.length a-HT.sIx its.length 0 lo)).toArray:=by
 obtain⟨h1,b,c⟩:=slice_bounds lo a its.toArray.size;unfold slicePick;rw[h1,b,c];simp only[sliceRange_one,pick_run,yA]<;>rfl
inductive rSlL(K:yg)(x:V)(lo:Option Int)(hi:Option Int)(H:Hp)(Q:VK):Prop|mk (a xs:_) (_:x=.ref a) (_:SqL K H a xs) (_:∀ p,H p=none->Q (.ref p) (upd H p (.lst (qct xs lo hi))))
theorem sl_list:SlR X (rSlL X.K):=by
 intro pins s σ H x v n p lo d m Q I j f pl i h;obtain⟨a,xs,rfl,g,q⟩:=h;cases j;obtain⟨its,r,e,hz⟩:=I.list g;have c:=r.length;show⟨"list",_,kz.lookup,e.isList.typeIs,?_⟩;show wpAny_getItem_list_slice e.isList f pl i .none (by simp) ?_ (by rw[yA]<;>lk);rw[slicePick_cut,<- c];show⟨.ref s.heap.objs.size,_,I.laid (t':=s.toks) (o:=.lst (qct xs lo d)) (fun b l q=>yu _ q) (yh _) ?_,rfl,q _ (I.hok.fresh (yh _))⟩;show⟨yi (qa7 xs lo d) hz,_,0,(r.drop (HT.sIx xs.length 0 lo)).take (HT.sIx xs.length xs.length d-HT.sIx xs.length 0 lo),yU _ rfl⟩
noncomputable def qai:V->Bool
 | .non=>true
 | .bl _=>true
 | .int _=>true
 | .str _=>true
 | _=>false
noncomputable def eqV:V->V->Bool
 | .non,.non=>true
 | .bl a,.bl b=>a==b
 | .bl a,.int b=>(if a then 1 else 0)==b
 | .int a,.bl b=>a==(if b then 1 else 0)
 | .int a,.int b=>a==b
 | .str a,.str b=>a==b
 | _,_=>false
theorem qdu(e:RelV y u)(c:RelV x v)(f:qai y=true)(d:qai x=true):SeqAt.EqAt A s u v (eqV y x):=by
 cases y with
 | non =>
  cases e
  cases x with
  | non=>cases c;show ke _
  | bl b=>cases c;show SeqAt.EqAt.none_bool b
  | int b=>obtain⟨t,rfl⟩:=c;show SeqAt.EqAt.none_int b t
  | str b=>obtain⟨t,rfl⟩:=c;show SeqAt.EqAt.none_str b t
  | _=>show absurd (show false=true from d) Yo
 | bl a =>
  cases e
  cases x with
  | non=>cases c;show SeqAt.EqAt.bool_none a
  | bl b=>cases c;show SeqAt.EqAt.bool_bool a b
  | int b=>obtain⟨t,rfl⟩:=c;show SeqAt.EqAt.bool_int a b t
  | str b=>obtain⟨t,rfl⟩:=c;show SeqAt.EqAt.bool_str a b t
  | _=>show absurd (show false=true from d) Yo
 | int a =>
  obtain⟨t',rfl⟩:=e
  cases x with
  | non=>cases c;show SeqAt.EqAt.int_none a t'
  | bl b=>cases c;show SeqAt.EqAt.int_bool a t' b
  | int b=>obtain⟨t,rfl⟩:=c;show SeqAt.EqAt.int_int a t' b t
  | str b=>obtain⟨t,rfl⟩:=c;show SeqAt.EqAt.int_str a t' b t
  | _=>show absurd (show false=true from d) Yo
 | str a =>
  obtain⟨t',rfl⟩:=e
  cases x with
  | non=>cases c;show SeqAt.EqAt.str_none a t'
  | bl b=>cases c;show SeqAt.EqAt.str_bool a t' b
  | int b=>obtain⟨t,rfl⟩:=c;show SeqAt.EqAt.str_int a t' b t
  | str b=>obtain⟨t,rfl⟩:=c;show SeqAt.EqAt.str_str a t' b t
  | _=>show absurd (show false=true from d) Yo
 | _=>show absurd (show false=true from f) Yo
noncomputable def eqU(x:V)(u:Value):Bool:=match u with
 | .none=>eqV .non x
 | .bool b=>eqV (.bl b) x
 | .int i _=>eqV (.int i) x
 | .str z _=>eqV (.str z) x
 | _=>false
theorem qdv(r:RelV y u)(f:qai y=true):eqU x u=eqV y x:=by
 cases y with
 | non=>cases r;rfl
 | bl b=>cases r;rfl
 | int i=>obtain⟨t,rfl⟩:=r;rfl
 | str z=>obtain⟨t,rfl⟩:=r;rfl
 | _=>show absurd (show false=true from f) Yo
theorem qa8:∀{xs:List V} {us:List Value},Vals xs us->xs.all qai=true->us.any (eqU x)=xs.any fun y=>eqV y x
 | _,_,.nil,_=>rfl
 | y::xs,u::us,.cons r t,f=>by
  rw[kG,Yh] at f;rw[Xm,Xm,qdv r f.1,qa8 t f.2]
theorem zV(b:RelV x v)(a:qai x=true):∀{xs:List V} {us:List Value},Vals xs us->xs.all qai=true->∀ u∈us,SeqAt.EqAt A s u v (eqU x u)
 | _,_,.nil,_=>fun u hu=>by cases hu
 | y::xs,u::us,.cons r t,f=>fun c hu=>by
  rw[kG,Yh] at f;rcases yz.mp hu with rfl | hu
  .rw [qdv r f.1];show qdu r b f.1 a
  .show zV b a t f.2 c hu
noncomputable def inV(x:V)(xs:List V):Bool:=xs.any fun y=>eqV y x
inductive rIn(K:yg)(neg:Bool)(x:V)(y:V)(H:Hp)(Q:VK):Prop|mk (p xs:_) (_:y=.ref p) (_:(SqL K H p xs\/SqT K H p xs)) (_:qai x=true) (_:xs.all qai=true) (_:Q (.bl (if neg then !inV x xs else inV x xs)) H)
theorem op_in_seq:OpR X (compareOp .In) (rIn X.K false):=by
 intro pins s σ H x y v u Q I b c h;obtain⟨p,xs,rfl,hq,a,fs,q⟩:=h;cases c;rcases hq with hq | hq
 .obtain⟨its,r,pl,hz⟩:=I.list hq;show SeqAt.in_listAt (eqU x) pl.isList (fun w hw=>zV b a r fs w (by simpa using hw)) ⟨.bl _,H,I,rfl,?_⟩;rw[show its.toArray.any (eqU x)=its.any (eqU x) by simp,qa8 r fs];show q
 .obtain⟨its,r,pl,hz⟩:=I.tuple hq;show SeqAt.in_tupleAt (eqU x) pl (fun w hw=>zV b a r fs w (by simpa using hw)) ⟨.bl _,H,I,rfl,?_⟩;rw[show its.toArray.any (eqU x)=its.any (eqU x) by simp,qa8 r fs];show q
theorem op_notIn_seq:OpR X (compareOp .NotIn) (rIn X.K true):=by
 intro pins s σ H x y v u Q I b c h;obtain⟨p,xs,rfl,hq,a,fs,q⟩:=h;cases c;rcases hq with hq | hq
 .obtain⟨its,r,pl,hz⟩:=I.list hq;show SeqAt.notIn_listAt (eqU x) pl.isList (fun w hw=>zV b a r fs w (by simpa using hw)) ⟨.bl _,H,I,rfl,?_⟩;rw[show its.toArray.any (eqU x)=its.any (eqU x) by simp,qa8 r fs];show q
 .obtain⟨its,r,pl,hz⟩:=I.tuple hq;show SeqAt.notIn_tupleAt (eqU x) pl (fun w hw=>zV b a r fs w (by simpa using hw)) ⟨.bl _,H,I,rfl,?_⟩;rw[show its.toArray.any (eqU x)=its.any (eqU x) by simp,qa8 r fs];show q
theorem call_len_seq:zL X (.builtin "len") (fun xs H Q=>∃ p ys,xs=[.ref p]/\(SqL X.K H p ys\/SqT X.K H p ys)/\Q (.int ys.length) H):=by
 intro pins s σ H xs us Q I r h;obtain⟨p,ys,rfl,hq,q⟩:=h;obtain⟨u,rfl,c⟩:=qbl r;cases c;have d:=qbr;rcases hq with hq | hq
 .obtain⟨its,b,pl,hz⟩:=I.list hq;have a:=b.length;show Calls.call_len_list pl.isList (by simp only[yA]<;>lk) ⟨.int ys.length,H,I.tok _,⟨s.toks+1,by rw[yA,a]⟩,q⟩
 .obtain⟨its,b,pl,hz⟩:=I.tuple hq;have a:=b.length;show len_tuple pl (by simp only[yA]<;>lk) ⟨.int ys.length,H,I.tok _,⟨s.toks+1,by rw[yA,a]⟩,q⟩
theorem call_len_str:zL X (.builtin "len") (fun xs H Q=>∃ z,xs=[.str z]/\z.length<=sizeLine/\Q (.int z.length) H):=by
 intro pins s σ H xs us Q I r h;obtain⟨z,rfl,hz,q⟩:=h;obtain⟨u,rfl,t,rfl⟩:=qbl r;have a:=qbr;show len_str (by lk) ⟨.int z.length,H,I.tok _,⟨_,rfl⟩,q⟩
theorem call_list_of:zL X (.type "list") (fun xs H Q=>∃ p ys,xs=[.ref p]/\(SqL X.K H p ys\/SqT X.K H p ys)/\∀ l,H l=none->Q (.ref l) (upd H l (.lst ys))):=by
 intro pins s σ H xs us Q I r h;obtain⟨p,ys,rfl,hq,q⟩:=h;obtain⟨u,rfl,t⟩:=qbl r;cases t;have d:∀(its:List Value),Vals ys its->ys.length<=sizeLine->∀(h':Heap) (a:Nat),(∀ b m,s.heap.get? b=some m->h'.get? b=some m) ->
   h'.get? s.heap.objs.size=some { cls:=.type "list",dict:=none,data:=.seq its.toArray a,slots:=#[] }->EP X pins σ Q (.ref s.heap.objs.size) { s with heap:=h' }:=fun its c hz h' a g e =>
  ⟨.ref s.heap.objs.size,_,I.laid (t':=s.toks) g (yh _) (show ObjOk X.prog X.w _ h' _ (.lst ys) from⟨hz,its,a,c,e⟩),rfl,q _ (I.hok.fresh (yh _))⟩
 rcases hq with hq | hq
 .obtain⟨its,c,pl,hz⟩:=I.list hq;have f:=c.length;obtain⟨o,j,hc,n,i⟩:=pl.isList;show call_list_seq p (.inl rfl) j hc i (fun h' a g e=>d its c hz h' a g e) (by simp only[yA]<;>lk)
 .obtain⟨its,c,pl,hz⟩:=I.tuple hq;have f:=c.length;obtain⟨o,j,hc,n,i⟩:=pl;show call_list_seq p (.inr rfl) j hc i (fun h' a g e=>d its c hz h' a g e) (by simp only[yA]<;>lk)
def tyV(K:yg)(T:String)(x:V)(H:Hp):Prop:=match x with
 | .str _=>T="str"
 | .int _=>T="int"
 | .ref p=>(T="list"/\∃ xs,SqL K H p xs)\/(T="tuple"/\∃ o,K.lookup p=some o/\o.cls=.type "tuple"/\o.dict=none) \/
   (T="dict"/\((∃ kvs,H p=some (.dK kvs))\/∃ kvs,H p=some (.dT kvs)))\/(T="set"/\∃ S n,H p=some (.set S n))
 | _=>False
theorem tyV_is{T:String}(I:Inv X pins σ H s)(r:RelV x v)(ty:tyV X.K T x H) :
  s.TypeIs v T/\∀ a,v=.ref a->∃ g,s.heap.get? a=some g/\g.dict=none:=by
 cases x with
 | str z =>
  obtain⟨t,rfl⟩:=r;cases (show T="str" from ty);show⟨typeIs_str s z t,fun _ e=>nomatch e⟩
 | int i =>
  obtain⟨t,rfl⟩:=r;cases (show T="int" from ty);show⟨typeIs_int s i t,fun _ e=>nomatch e⟩
 | ref p =>
  cases r;rcases ty with⟨rfl,xs,h⟩ | ⟨rfl,o,b,hc,f⟩ | ⟨rfl,b⟩ | ⟨rfl,S,n,b⟩
  .obtain⟨its,_,pl,_⟩:=I.list h;show⟨pl.isList.typeIs,fun a e=>?_⟩;cases e;obtain⟨o,n,e,c,f,_⟩:=pl;show⟨o,e,f⟩
  .show⟨⟨o,I.kIn p o b,hc⟩,fun a e=>?_⟩;cases e;show⟨o,I.kIn _ o b,f⟩
  .have z:∃ o,s.heap.get? p=some o/\o.ExactDict:=by
    rcases b with⟨kvs,b⟩ | ⟨kvs,b⟩
    .obtain⟨_,_,_,_,o,_,_,e,ex,_⟩:=I.hok p _ b;show⟨o,e,ex⟩
    .obtain⟨_,_,_,_,o,_,_,e,ex,_⟩:=I.hok p _ b;show⟨o,e,ex⟩
   obtain⟨o,e,ex⟩:=z;show⟨⟨o,e,ex.1⟩,fun a d=>?_⟩;cases d;show⟨o,e,ex.2.1⟩
  .obtain⟨o,_,_,_,e,ex,_⟩:=I.hok p _ b;show⟨⟨o,e,ex.1⟩,fun a d=>?_⟩;cases d;show⟨o,e,ex.2.1⟩
 | _=>show False.elim ty
def tBM0(K:yg)(T:String)(r:V->List V->Hp->VK->Prop)(b:TE):TE:=fun σ H Q=>b σ H fun x a=>tyV K T x a/\r x [] a Q
def tBM(K:yg)(T:String)(r:V->List V->Hp->VK->Prop)(c:TE)(t:TA):TE:=fun σ H Q=>c σ H fun x a=>tyV K T x a/\t σ a fun xs b=>r x xs b Q
variable{o e:Expr}{es:List Expr}{to:TE}{t:TA}{name:Str}{apos cpos:Pos}{T id:String}{r:V->List V->Hp->VK->Prop}
theorem pe_bm(A:PlainAttrs T)(f:Slot T name id)(g:typeOf (.builtin id)=pure (.type "method_descriptor"))(w:MtR X id r)(y:PE X o to)(u:PA X (e::es) t)
  (b:attributeBase o name X.env (eval o X.env)=eval o X.env:=by rfl)
  (d:((backTo cpos (starEach (e::es) X.env)).all (fun x=>!x.1)&&(backToKw cpos (keywordEach [] X.env)).all (fun x=>x.1.isSome)
   && decide ((e::es).length+([]:List Keyword).length+(if ([]:List Keyword).isEmpty then 0 else 1)<30))=true:=by rfl)
  (c:(apos.endLine==cpos.line)=true:=by rfl) (z:starEach (e::es) X.env=(false,eval e X.env)::starEach es X.env:=by rfl) (a:(backTo cpos (starEach es X.env)).any (·.1)=false:=by rfl) :
  PE X (.Call (.Attribute o name apos) (e::es) [] cpos) (tBM X.K T r to t):=by
 intro pins s σ H Q I h;show wpAny_Call_method_late b d c rfl (thn (y pins s σ H _ I h) fun v E ⟨x,m,i,l,ty,B⟩=>?_);obtain⟨h1,q⟩:=tyV_is i l ty;show⟨T,id,A,f,g,h1,q,?_⟩;have j:=u cpos pins E σ m _ i B;rw[z] at j ⊢;show XT (by show(false||(backTo cpos (starEach es X.env)).any (·.1))=false;rw[a]<;>rfl) (X7 ?_);show thn j fun us F ⟨vs,n,p,D,C⟩=>w pins F σ n x vs v us Q p l D C
end
def MtM(X:Cx)(id:String)(r:V->List V->Hp->VK->Prop):Prop:=
 ∀(pins:List (Addr×Obj)) (s:Shared) (σ:St) (H:Hp) (x:V) (xs:List V) (v:Value) (us:List Value) (Q:VK),Inv X pins σ H s->RelV x v->Vals xs us->r x xs H Q ->
  wpAny (model X.prog X.w) X.A (call (.builtin id) (v::us)) (EP X pins σ Q) X.xe s
theorem Vals.one:∀{x:V} {us:List Value},Vals [x] us->∃ u,us=[u]/\RelV x u
 | _,_,.cons r .nil=>⟨_,rfl,r⟩
theorem Vals.eraseIdx:∀{xs:List V} {us:List Value} (i:Nat),Vals xs us->Vals (xs.eraseIdx i) (us.eraseIdx i)
 | _,_,_,.nil=>.nil
 | _,_,0,.cons _ t=>t
 | _,_,i+1,.cons r t=>.cons r (Vals.eraseIdx i t)
theorem Vals.rep(h:Vals xs us):∀ k:Nat,Vals (List.replicate k xs).flatten (List.replicate k us).flatten
 | 0=>.nil
 | k+1=>by
  rw[xx,xx,Xq,Xq];show Vals.append h (Vals.rep h k)
theorem qb9:∀(l:List α) (i:Nat),(l.eraseIdx i).length<=l.length
 | [],_=>yh _
 | _::_,0=>xC _
 | _::r,i+1=>kK (qb9 r i)
theorem qca(its:List Value):∀(k:Nat) (acc:List Value),
  List.foldl (fun b c=>b++c) acc.toArray (List.replicate k its.toArray)=(acc++(List.replicate k its).flatten).toArray
 | 0,acc=>by simp
 | k+1,acc=>by
  have e:acc.toArray++its.toArray=(acc++its).toArray:=by simp
  have a:(acc++its)++(List.replicate k its).flatten=acc++(List.replicate (k+1) its).flatten:=by
   rw[xx,Xq,yW]
  rw[<- a,<- qca its k (acc++its),<- e,xx,List.foldl_cons]
section
variable{X:Cx}{pins:List (Addr×Obj)}{σ:St}{H:Hp}{s:Shared}{l b:Addr}{xs ys zs:List V}
theorem Inv.lset{f:Array Value->Array Value}(I:Inv X pins σ H s)(a:H l=some (.lst xs))
  (e:s.heap.get? l=some { cls:=.type "list",data:=.seq its.toArray n }) (b:f its.toArray=its'.toArray) (hv:Vals ys its') (hz:ys.length<=sizeLine) :
  Inv X pins σ (upd H l (.lst ys)) { s with heap:=s.heap.update l (Obj.mapSeq f),toks:=t' }:=by
 have q:=PySem.IsL.update e f;rw[b] at q;show I.write (x:=l) (e:=l) (by rw[a];show trivial) (.inl rfl) (fun d u hb c=>(YC s.heap (Obj.mapSeq f) (Yd hb)).trans c) ⟨_,q⟩ ?_;show⟨hz,its',_,hv,q⟩
theorem Inv.lnew(I:Inv X pins σ H s)(hv:Vals ys its)(hz:ys.length<=sizeLine) :
  Inv X pins σ (upd H s.heap.objs.size (.lst ys)) { s with heap:=s.heap.push { cls:=.type "list",data:=.seq its.toArray },toks:=t' }:=
 I.laid (fun _ _ q=>yu _ q) (yh _) ⟨hz,its,0,hv,yU _ rfl⟩
theorem Inv.fresh(I:Inv X pins σ H s):H s.heap.objs.size=none:=I.hok.fresh (yh _)
theorem Inv.lstM(I:Inv X pins σ H s)(a:H l=some (.lst xs)):xs.length<=sizeLine/\∃(its:List Value) (n:Nat),Vals xs its/\xs.length=its.length/\s.heap.get? l=some { cls:=.type "list",data:=.seq its.toArray n }:=by
 obtain⟨z,its,n,r,e⟩:=I.hok l _ a;show⟨z,its,n,r,r.length,e⟩
theorem qcS(h:n<=sizeLine):Builtin.List.listTooLong n=false:=by
 unfold Builtin.List.listTooLong;show yl (by lk)
end
section
variable{X:Cx}
inductive rAppend(x:V)(vs:List V)(H:Hp)(Q:VK):Prop|mk (l xs y:_) (_:x=.ref l) (_:vs=[y]) (_:H l=some (.lst xs)) (_:xs.length<sizeLine) (_:Q .non (upd H l (.lst (xs++[y]))))
theorem mt_append:MtM X "list.append" rAppend:=by
 intro pins s σ H x vs v us Q I d c h;obtain⟨l,xs,y,rfl,rfl,a,hz,q⟩:=h;cases d;obtain⟨u,rfl,b⟩:=c.one;obtain⟨z,its,n,r,hl,e⟩:=I.lstM a;show kt F.slot_list_append ⟨_,e,rfl⟩ F.entry_list_append (F.args_list_append_2 _ _) (PySem.list_append l its.toArray n u (by rw[yA];lk)) ⟨e,?_⟩;show⟨.non,_,I.lset (its':=its++[u]) a e (by simp) (r.append (.cons b .nil)) ?_,rfl,q⟩;rw[yt,List.length_singleton];lk
inductive rExtend(x:V)(vs:List V)(H:Hp)(Q:VK):Prop|mk (l b xs zs:_) (_:x=.ref l) (_:vs=[.ref b]) (_:H l=some (.lst xs)) (_:H b=some (.lst zs)) (_:xs.length+zs.length<=sizeLine) (_:Q .non (upd H l (.lst (xs++zs))))
theorem mt_extend:MtM X "list.extend" rExtend:=by
 intro pins s σ H x vs v us Q I t p h;obtain⟨l,b,xs,y,rfl,rfl,d,g,hz,q⟩:=h;cases t;obtain⟨u,rfl,o⟩:=p.one;cases o;obtain⟨z,its,n,r,hl,e⟩:=I.lstM d;obtain⟨w,a,j,m,i,f⟩:=I.lstM g;have hsz:its.toArray.size+a.toArray.size<=sizeLine:=by rw[yA,yA];lk
 have c:¬ (!its.toArray.isEmpty&&Builtin.List.listTooLong (its.toArray.size+a.toArray.size))=true:=by
  rw[qcS hsz,Bool.and_false];show Yo
 show kt F.slot_list_extend ⟨_,e,rfl⟩ F.entry_list_extend (F.args_list_extend_2 _ _)
  (AutoSeq1.list_extend_list_list_0 l its.toArray n b a.toArray j c (by rw[yA];lk) (by lk)) ⟨e,f,?_⟩
 show⟨.non,_,I.lset (its':=its++a) d e (by simp) (r.append m) ?_,rfl,q⟩;rw[yt];lk
inductive rPop(x:V)(vs:List V)(H:Hp)(Q:VK):Prop|mk (l xs y:_) (_:x=.ref l) (_:vs=[]) (_:H l=some (.lst xs)) (_:xs[xs.length-1]?=some y) (_:Q y (upd H l (.lst xs.dropLast)))
inductive rPopAt(x:V)(vs:List V)(H:Hp)(Q:VK):Prop|mk (l xs i k y:_) (_:x=.ref l) (_:vs=[.int i]) (_:H l=some (.lst xs)) (_:-(2 ^ 63)<=i) (_:i<2 ^ 63) (_:seqIndex? i xs.length=some k) (_:xs[k]?=some y) (_:Q y (upd H l (.lst (xs.eraseIdx k))))
theorem mt_popAt:MtM X "list.pop" rPopAt:=by
 intro pins s σ H x vs v us Q I m j h;obtain⟨l,xs,i,k,y,rfl,rfl,b,h1,c,d,f,q⟩:=h;cases m;obtain⟨u,rfl,g⟩:=j.one;obtain⟨t,rfl⟩:=g;obtain⟨z,its,n,r,hl,e⟩:=I.lstM b;obtain⟨w,hw,a⟩:=r.get f;show kt F.slot_list_pop ⟨_,e,rfl⟩ F.entry_list_pop (F.args_list_pop_2 _ _)
  (MeetsSeq.list_pop_at l its.toArray n i t k w (fitsIndex_both h1 c) (by rw[yA,<- hl];show d) (by rw[<- xL];show hw) (by rw[yA];lk)) ⟨e,?_⟩
 show⟨y,_,I.lset (its':=its.eraseIdx k) b e ?_ (r.eraseIdx k) ?_,a,q⟩
 .show its.toArray.eraseIdxIfInBounds k=(its.eraseIdx k).toArray;rw[List.eraseIdxIfInBounds_toArray]
 .have:=qb9 xs k;lk
inductive rReverse(x:V)(vs:List V)(H:Hp)(Q:VK):Prop|mk (l xs:_) (_:x=.ref l) (_:vs=[]) (_:H l=some (.lst xs)) (_:Q .non (upd H l (.lst xs.reverse)))
inductive rClear(x:V)(vs:List V)(H:Hp)(Q:VK):Prop|mk (l xs:_) (_:x=.ref l) (_:vs=[]) (_:H l=some (.lst xs)) (_:Q .non (upd H l (.lst [])))
inductive rCat(x:V)(y:V)(H:Hp)(Q:VK):Prop|mk (l b xs zs:_) (_:x=.ref l) (_:y=.ref b) (_:H l=some (.lst xs)) (_:H b=some (.lst zs)) (_:xs.length+zs.length<=sizeLine) (_:∀ p,H p=none->Q (.ref p) (upd H p (.lst (xs++zs))))
theorem op_cat:OpR X (binaryOp .Add) rCat:=by
 intro pins s σ H x y v u Q I m o h;obtain⟨l,b,xs,w,rfl,rfl,g,f,hz,q⟩:=h;cases m;cases o;obtain⟨z,its,n,r,hl,e⟩:=I.lstM g;obtain⟨t,a,p,j,i,c⟩:=I.lstM f;show PySem.P.add_list e c ?_ (by rw[yA,yA];lk);have d:its.toArray++a.toArray=(its++a).toArray:=by simp
 rw[d];show⟨.ref _,_,I.lnew (t':=s.toks) (r.append j) (by rw[yt];lk),rfl,q _ I.fresh⟩
inductive rRep(x:V)(y:V)(H:Hp)(Q:VK):Prop|mk (l k xs:_) (_:x=.ref l) (_:y=.int k) (_:H l=some (.lst xs)) (_:-(2 ^ 63)<=k) (_:k<2 ^ 63) (_:xs.length*k.toNat<=sizeLine) (_:∀ p,H p=none->Q (.ref p) (upd H p (.lst (List.replicate k.toNat xs).flatten)))
theorem len_rep(xs:List α)(k:Nat):(List.replicate k xs).flatten.length=k*xs.length:=by
 induction k with
 | zero=>simp
 | succ k ih=>rw[xx,Xq,yt,ih,Nat.succ_mul,Nat.add_comm]
theorem qeh:OpR X (binaryOp .Mult) rRep:=by
 intro pins s σ H x y v u Q I A B h;obtain⟨l,k,xs,rfl,rfl,w,h1,p,hz,q⟩:=h;cases A;obtain⟨t,rfl⟩:=B;obtain⟨z,its,n,r,hl,e⟩:=I.lstM w;have f:its.toArray.size*k.toNat<=sizeLine:=by rw[yA,<- hl];show hz
 have c:¬ its.toArray.size*k.toNat>(2 ^ 63-1) / 8:=by
  have:(sizeLine:Nat)<=(2 ^ 63-1) / 8:=by decide
  lk
 have d:¬ (!Builtin.List.listFitsIndex k)=true:=by
  rw[fitsIndex_both h1 p];show Yo
 have b:¬ Builtin.List.listTooLong (its.toArray.size*k.toNat)=true:=by
  rw[qcS f];show Yo
 have g:List.foldl (fun i j=>i++j) #[] (List.replicate (if its.toArray.isEmpty=true then 0 else k.toNat) its.toArray)=(List.replicate k.toNat its).flatten.toArray:=by
  have o:∀ m:Nat,List.foldl (fun i j=>i++j) #[] (List.replicate m its.toArray)=(List.replicate m its).flatten.toArray:=fun m=>by
   have:=qca its m [];rw[List.nil_append] at this;show this
  rw[o]
  cases its with
  | nil=>simp
  | cons a r'=>rw[yE (by simp)]
 show wpAny_binaryOp_repeat_ref (T:="list") (U:="int") (by decide) ⟨_,e,rfl⟩ (fun s'=>typeIs_int s' k t) noFill_list_mul F.fills_int_mul F.slot_int_rmul repeat_list F.slot_int_index.lookup
  (kt F.slot_int_rmul (typeIs_int s k t) F.entry_int_rmul (F.args_int_rmul_2 _ _) (int___rmul___int_list k t l its.toArray n)
   ⟨e,rfl,⟨_,e,rfl⟩,kt F.slot_list_mul ⟨_,e,rfl⟩ F.entry_list_mul (F.args_list_mul_2 _ _) (AutoListH.list___mul___list_int_3 l its.toArray n k t d c b) ⟨e,?_⟩⟩)
 rw[g];show⟨.ref _,_,I.lnew (t':=s.toks) (r.rep k.toNat) (by rw[len_rep,Nat.mul_comm];show hz),rfl,q _ I.fresh⟩
end
section
variable{prog:Program}{w:World}{A:Around}{E:Value->Shared->Prop}{s:Shared}
set_option maxRecDepth 100000 in
end
section
variable{X:Cx}
end
section
variable{κ:Type}[DecidableEq κ]
noncomputable def jR(kvs:List (κ×V))(k:κ):Option V:=(kvs.find? fun a=>decide (a.1=k)).map (·.2)
noncomputable def jW(kvs:List (κ×V))(k:κ)(v:V):List (κ×V):=
 if (kvs.any fun a=>decide (a.1=k))=true then kvs.map (fun a=>if a.1=k then(a.1,v) else a) else kvs++[(k,v)]
noncomputable def dropK(kvs:List (κ×V))(k:κ):List (κ×V):=kvs.filter fun a=>decide (a.1≠k)
theorem jp{p:κ×V}{r:List (κ×V)}{k:κ}(e:p.1=k):jR (p::r) k=some p.2:=by simp[jR,xO,e]
theorem q9{p:κ×V}{r:List (κ×V)}{k:κ}(e:¬ p.1=k):jR (p::r) k=jR r k:=by simp[jR,xO,e]
theorem zW(k:κ):∀ kvs:List (κ×V),(kvs.any fun a=>decide (a.1=k))=(jR kvs k).isSome
 | []=>rfl
 | p::r=>by
  rw[Xm];by_cases e:p.1=k
  .simp only[jp e,yD e,Bool.true_or,Option.isSome_some]
  .rw [q9 e,yl e,Bool.false_or];show zW k r
theorem qcT(k j:κ)(y:V):∀ kvs:List (κ×V),jR (kvs.map fun a=>if a.1=k then(a.1,y) else a) j=(jR kvs j).map fun x=>if j=k then y else x
 | []=>rfl
 | p::r=>by
  have b:=qcT k j y r;rw[YF];by_cases h:p.1=k
  .rw [yG h];by_cases e:p.1=j
   .rw [jp (p:=(p.1,y)) e,jp e,kf,yG (e.symm.trans h)]
   .rw [q9 (p:=(p.1,y)) e,q9 e,b]
  .rw [yE h];by_cases e:p.1=j
   .rw [jp (p:=p) e,jp e,kf,yE (fun z=>h (e.trans z))]
   .rw [q9 (p:=p) e,q9 e,b]
theorem qcb(k j:κ)(y:V):∀ kvs:List (κ×V),jR kvs k=none->jR (kvs++[(k,y)]) j=if j=k then some y else jR kvs j
 | [],_=>by
  by_cases e:k=j
  .rw [yG e.symm];show jp (p:=(k,y)) e
  .rw [yE (fun z=>e z.symm)];show q9 (p:=(k,y)) e
 | p::r,hn=>by
  rw[kL];have a:¬ p.1=k:=fun z=>by rw[jp z] at hn;cases hn
  rw[q9 a] at hn;have b:=qcb k j y r hn;by_cases e:p.1=j
  .rw [jp e,jp e,yE (fun z=>a (e.trans z))]
  .rw [q9 e,q9 e,b]
theorem zC(kvs:List (κ×V))(k j:κ)(y:V):jR (jW kvs k y) j=if j=k then some y else jR kvs j:=by
 unfold jW;by_cases a:(kvs.any fun c=>decide (c.1=k))=true
 .rw [yG a,qcT];rw[zW] at a;by_cases e:j=k
  .obtain⟨x,b⟩:=YL.mp a;rw[yG e,e,b,kf,yG rfl]
  .rw [yE e]
   cases jR kvs j with
   | none=>rfl
   | some x=>rw[kf,yE e]
 .rw [yE a];show qcb k j y kvs ?_;rw[zW] at a
  cases q:jR kvs k with
  | none=>rfl
  | some x=>rw[q] at a;show(a rfl).elim
theorem jh(kvs:List (κ×V))(k:κ)(v:V):(jW kvs k v).length<=kvs.length+1:=by
 unfold jW;split
 .rw [ya];lk
 .rw [yt,yy,Ym];lk
theorem qaW{kvs:List (κ×V)}{k:κ}(v:V)(h:jR kvs k=none):jW kvs k v=kvs++[(k,v)]:=by
 unfold jW;rw[zW,h];show yE (by decide)
theorem RelO.isSome_eq{u:Option Value}(r:RelO o u):o.isSome=u.isSome:=by
 cases o with
 | none=>cases u with
  | none=>rfl
  | some _=>show(show False from r).elim
 | some _=>cases u with
  | none=>show(show False from r).elim
  | some _=>rfl
theorem RelO.getD{u:Option Value}{d:V}{d':Value}(r:RelO o u)(rd:RelV d d'):RelV (o.getD d) (u.getD d'):=by
 cases o with
 | none=>cases u with
  | none=>show rd
  | some _=>show(show False from r).elim
 | some _=>cases u with
  | none=>show(show False from r).elim
  | some _=>show r
theorem KV.val{kvs:List (κ×V)}{vs:List (κ×Value)}(r:KV kvs vs)(k:κ):RelO (jR kvs k) (valueAt vs k):=by
 unfold KV at r
 induction r with
 | nil=>show YO
 | @cons p q ps qs h t ih =>
  obtain⟨h1,c⟩:=h;by_cases e:p.1=k
  .have a:q.1=k:=h1.symm.trans e;have b:valueAt (q::qs) k=some q.2:=by simp[valueAt,xO,a]
   rw[jp e,b];show c
  .have a:¬ q.1=k:=fun z=>e (h1.trans z);have b:valueAt (q::qs) k=valueAt qs k:=by simp[valueAt,xO,a]
   rw[q9 e,b];show ih
theorem KV.any{kvs:List (κ×V)}{vs:List (κ×Value)}(r:KV kvs vs)(k:κ):(kvs.any fun a=>decide (a.1=k))=vs.any fun a=>decide (a.1=k):=by
 unfold KV at r
 induction r with
 | nil=>rfl
 | cons h t ih=>rw[Xm,Xm,ih,h.1]
theorem KV.repl{kvs:List (κ×V)}{vs:List (κ×Value)}(r:KV kvs vs)(k:κ)(c:RelV y u) :
  KV (kvs.map fun a=>if a.1=k then(a.1,y) else a) (vs.map fun a=>if a.1=k then(a.1,u) else a):=by
 unfold KV at r ⊢
 induction r with
 | nil=>show .nil
 | @cons p q ps qs h t ih =>
  rw[YF,YF];show .cons ?_ ih;obtain⟨h1,b⟩:=h;by_cases e:p.1=k
  .rw [yG e,yG (h1.symm.trans e)];show⟨h1,c⟩
  .rw [yE e,yE (fun z=>e (h1.trans z))];show⟨h1,b⟩
theorem KV.put{kvs:List (κ×V)}{vs:List (κ×Value)}(r:KV kvs vs)(k:κ)(a:RelV y u):KV (jW kvs k y) (stored vs k u):=by
 unfold jW stored;rw[r.any k];by_cases e:(vs.any fun b=>decide (b.1=k))=true
 .rw [yG e,yG e];show r.repl k a
 .rw [yE e,yE e];show Paired.snoc r ⟨rfl,a⟩
theorem KV.length{kvs:List (κ×V)}{vs:List (κ×Value)}(r:KV kvs vs):kvs.length=vs.length:=Paired.length r
end
theorem qdf{k:Key}(r:RelV (kV k) u):(jx P w).is k u=true:=by
 cases k with
 | inl i=>obtain⟨t,e⟩:=(show ∃ t,u=Value.int i t from r);subst e;show mixKind_int P w i t
 | inr x=>obtain⟨t,e⟩:=(show ∃ t,u=Value.str x t from r);subst e;show mixKind_str P w x t
theorem qcc:∀{ks:List Key} {us:List Value},Vals (ks.map kV) us->ItemsAre (jx P w) ks us
 | [],_,r=>by rw[List.map_nil] at r;cases r;show .nil
 | k::ks,_,r=>by
  rw[YF] at r
  cases r with
  | cons h t=>show .cons (qdf h) (qcc t)
abbrev KT(H:Hp):List (List Key×V)->List (List Key×Addr×Value)->Prop:=Paired fun p q=>p.1=q.1/\H q.2.1=some (.tup (p.1.map kV))/\RelV p.2 q.2.2
theorem KT.val{xs:List (List Key×Addr×Value)}(r:KT H kvs xs)(k:List Key):RelO (jR kvs k) ((atKey xs k).map (·.2)):=by
 induction r with
 | nil=>show YO
 | @cons p q ps qs h t ih =>
  obtain⟨h1,_,c⟩:=h;by_cases e:p.1=k
  .have a:q.1=k:=h1.symm.trans e;have b:atKey (q::qs) k=some q.2:=by simp[atKey,xO,a]
   rw[jp e,b];show c
  .have a:¬ q.1=k:=fun z=>e (h1.trans z);have b:atKey (q::qs) k=atKey qs k:=by simp[atKey,xO,a]
   rw[q9 e,b];show ih
theorem KT.repl{xs:List (List Key×Addr×Value)}(r:KT H kvs xs)(k:List Key)(d:RelV y u) :
  KT H (kvs.map fun a=>if a.1=k then(a.1,y) else a) (xs.map (putAt k u)):=by
 induction r with
 | nil=>show .nil
 | @cons p q ps qs h t ih =>
  rw[YF,YF];show .cons ?_ ih;obtain⟨h1,b,c⟩:=h;unfold putAt;by_cases e:p.1=k
  .rw [yG e,yG (h1.symm.trans e)];show⟨h1,b,d⟩
  .rw [yE e,yE (fun z=>e (h1.trans z))];show⟨h1,b,c⟩
theorem KT.put{xs:List (List Key×Addr×Value)}(r:KT H kvs xs)(k:List Key){b:Addr}(hb:H b=some (.tup (k.map kV)))(a:RelV y u) :
  KT H (jW kvs k y) (storedH xs k b u):=by
 have e:(kvs.any fun c=>decide (c.1=k))=(atKey xs k).isSome:=by
  rw[zW,(r.val k).isSome_eq,Xr]
 unfold jW storedH;rw[e];by_cases q:(atKey xs k).isSome=true
 .rw [yG q,yG q];show r.repl k a
 .rw [yE q,yE q];show Paired.snoc r ⟨rfl,hb,a⟩
theorem KT.keeps{xs:List (List Key×Addr×Value)}(r:KT H kvs xs)(a:∀ b ys,H b=some (.tup ys)->H' b=some (.tup ys)):KT H' kvs xs:=
 Paired.mapP r fun _ _ z=>⟨z.1,a _ _ z.2.1,z.2.2⟩
section
variable{P:Program}{w:World}{H:Hp}{h:Heap}{a:Addr}
theorem qe9{u:HO}(ok:HOk P w H h)(e:Rd H a u):ObjOk P w H h a u:=e.ok ok
theorem qcd{kvs:List (Key×V)}(ok:HOk P w H h)(e:Rd H a (.dK kvs)):kvs.length<=sizeLine/\(a==sysModules)=false/\∃ vs,KV kvs vs/\h.DictOf (jx P w) a vs:=
 show ObjOk P w H h a (.dK kvs) from qe9 ok e
theorem dk_of{kvs:List (Key×V)}(ok:HOk P w H h)(e:H a=some (.dK kvs)):kvs.length<=sizeLine/\(a==sysModules)=false/\∃ vs,KV kvs vs/\h.DictOf (jx P w) a vs:=qcd ok (.inl e)
theorem qbu{ks:List Key}(ok:HOk P w H h)(e:H a=some (.tup (ks.map kV))):(tupleKind (jx P w)).is h ks a:=by
 obtain⟨_,its,r,o,h1,b,n,c⟩:=(show ObjOk P w H h a (.tup (ks.map kV)) from ok a _ e);show⟨o,its.toArray,n,h1,b,c,by simpa using qcc r⟩
theorem qcy(ok:HOk P w H h)(e:Rd H a (.dT kvs)):kvs.length<=sizeLine/\(a==sysModules)=false /\
  ∃ xs,KT H kvs xs/\h.DictOfH (tupleKind (jx P w)) a xs:=by
 obtain⟨z,y,xs,r,o,es,ep,h1,b,c,d,f⟩:=(show ObjOk P w H h a (.dT kvs) from qe9 ok e);show⟨z,y,xs,r,o,es,ep,h1,b,c,d,fun x hx=>?_,f⟩
 have all:∀{l:List (List Key×V)} {m:List (List Key×Addr×Value)},KT H l m->∀ x∈m,(tupleKind (jx P w)).is h x.1 x.2.1:=by
  intro l m q
  induction q with
  | nil=>intro x hx;show nomatch hx
  | @cons p q ps qs hq t ih =>
   intro x hx;rcases yz.mp hx with e | hx
   .subst e;show qbu ok (by rw[<- hq.1];show hq.2.1)
   .show ih x hx
 show all r x hx
theorem dt_of(ok:HOk P w H h)(e:H a=some (.dT kvs)):kvs.length<=sizeLine/\(a==sysModules)=false /\
  ∃ xs,KT H kvs xs/\h.DictOfH (tupleKind (jx P w)) a xs:=qcy ok (.inl e)
end
def DGet(H:Hp)(a:Addr)(y:V)(r:Option V):Prop:=
 (∃ kvs k,Rd H a (.dK kvs)/\y=kV k/\r=jR kvs k)\/∃ kvs k b,Rd H a (.dT kvs)/\y=.ref b/\H b=some (.tup (k.map kV))/\r=jR kvs k
def DPut(H:Hp)(a:Addr)(y v:V)(H':Hp):Prop:=
 (∃ kvs k,H a=some (.dK kvs)/\y=kV k/\kvs.length<sizeLine/\H'=upd H a (.dK (jW kvs k v))) \/
 ∃ kvs k b,H a=some (.dT kvs)/\y=.ref b/\H b=some (.tup (k.map kV))/\kvs.length<sizeLine/\H'=upd H a (.dT (jW kvs k v))
theorem DGet.k{kvs:List (Key×V)}{k:Key}(e:H a=some (.dK kvs)):DGet H a (kV k) (jR kvs k):=.inl ⟨kvs,k,.inl e,rfl,rfl⟩
theorem DPut.k{kvs:List (Key×V)}{k:Key}{v:V}(e:H a=some (.dK kvs))(hl:kvs.length<sizeLine):DPut H a (kV k) v (upd H a (.dK (jW kvs k v))):=.inl ⟨kvs,k,e,rfl,hl,rfl⟩
section
variable{X:Cx}{pins:List (Addr×Obj)}{σ:St}{H:Hp}{s:Shared}{a:Addr}{y v:V}{u r:Value}{o:Option V}{A:Around}{E:Value->Shared->Prop}
theorem Inv.big(I:Inv X pins σ H s):sysModules<s.heap.objs.size:=by
 have h:mainGlobals<s.heap.objs.size:=(I.mod.glob.keeps I.bk).lt;show kR (by decide) h
theorem d_getItem{Q:Value->Shared->Prop}(x:A.units+1<cLine)(I:Inv X pins σ H s)(g:DGet H a y (some v))(n:RelV y u)(h:∀ f s',Inv X pins σ H s'->RelV v f->Q f s') :
  wpAny (model X.prog X.w) A (getItem (.ref a) u) Q E s:=by
 rcases g with⟨kvs,k,e,j,l⟩ | ⟨kvs,k,b,e,j,q,l⟩
 .subst j;obtain⟨z,r,vs,c,i⟩:=qcd I.hok e;obtain⟨f,hw,d⟩:=RelO.some_of (v:=v) (o:=valueAt vs k) (by rw[l];show c.val k);show wpAny_getItem_of (qdf n) i.mapOf hw (h f _ (I.tok _) d)
 .subst j;cases (show u=Value.ref b from n);obtain⟨z,r,xs,c,i⟩:=qcy I.hok e;obtain⟨f,hw,d⟩:=RelO.some_of (v:=v) (o:=(atKey xs k).map (·.2)) (by rw[l];show c.val k);obtain⟨p,t,m⟩:=yn.mp hw;show wpAny_getItem_heap (Xg x) (qbu I.hok q) i t ?_;rw[m];show h f _ (I.tok _) d
theorem d_in{Q:Value->Shared->Prop}(n:A.units+1<cLine)(I:Inv X pins σ H s)(g:DGet H a y o)(j:RelV y u)(h:∀ s',Inv X pins σ H s'->Q (.bool o.isSome) s') :
  wpAny (model X.prog X.w) A (compareOp .In u (.ref a)) Q E s:=by
 rcases g with⟨kvs,k,e,f,l⟩ | ⟨kvs,k,b,e,f,m,l⟩
 .subst f;obtain⟨z,i,vs,c,d⟩:=qcd I.hok e;show wpAny_in_of (qdf j) i d.mapOf ?_;rw[<- (c.val k).isSome_eq,<- l];show h _ (I.tok _)
 .subst f;cases (show u=Value.ref b from j);obtain⟨z,i,xs,c,d⟩:=qcy I.hok e;show wpAny_in_heap (Xg n) (qbu I.hok m) i d ?_;have q:=(c.val k).isSome_eq;rw[Xr] at q;rw[<- q,<- l];show h _ (I.tok _)
theorem d_notIn{Q:Value->Shared->Prop}(n:A.units+1<cLine)(I:Inv X pins σ H s)(g:DGet H a y o)(j:RelV y u)(h:∀ s',Inv X pins σ H s'->Q (.bool (!o.isSome)) s') :
  wpAny (model X.prog X.w) A (compareOp .NotIn u (.ref a)) Q E s:=by
 rcases g with⟨kvs,k,e,f,l⟩ | ⟨kvs,k,b,e,f,m,l⟩
 .subst f;obtain⟨z,i,vs,c,d⟩:=qcd I.hok e;show wpAny_notIn_of (qdf j) i d.mapOf ?_;rw[<- (c.val k).isSome_eq,<- l];show h _ (I.tok _)
 .subst f;cases (show u=Value.ref b from j);obtain⟨z,i,xs,c,d⟩:=qcy I.hok e;show wpAny_notIn_heap (Xg n) (qbu I.hok m) i d ?_;have q:=(c.val k).isSome_eq;rw[Xr] at q;rw[<- q,<- l];show h _ (I.tok _)
theorem qdw{c:HO}(I:Inv X pins σ H s)(g:Mut (H a))(f:Heap.SameBut a s.heap h')(d:∃ q,h'.get? a=some q)(new:ObjOk X.prog X.w (upd H a c) h' a c) :
  Inv X pins σ (upd H a c) { s with heap:=h',toks:=t' }:=
 I.write (x:=a) (e:=a) g (.inl rfl) (fun b q hb z=>(f.2 b hb).trans z) d new
theorem dk_new{kvs:List (Key×V)}{vs:List (Key×Value)}(z:kvs.length<=sizeLine)(d:(a==sysModules)=false)(b:KV kvs vs)(c:h'.DictOf (jx P w) a vs) :
  ObjOk P w H' h' a (.dK kvs):=⟨z,d,vs,b,c⟩
theorem d_setItem{Q:Unit->Shared->Prop}(L:A.units+1<cLine)(I:Inv X pins σ H s)(g:DPut H a y v H')(C:RelV y u)(B:RelV v r)(h:∀ s',Inv X pins σ H' s'->Q () s') :
  wpAny (model X.prog X.w) A (setItem (.ref a) u r) Q E s:=by
 rcases g with⟨kvs,k,e,n,l,m⟩ | ⟨kvs,k,b,e,n,t,l,m⟩
 .subst n m;obtain⟨z,o,vs,d,j⟩:=dk_of I.hok e;have hz:vs.length<=sizeLine:=by rw[<- d.length];show z
  have hl:(jW kvs k v).length<=sizeLine:=by have:=jh kvs k v;lk
  show wpAny_setItem_pairs (hsz:=hz) (qdf C) j fun h' f p=>h _ ?_;have K:∃ q,h'.get? a=some q:=let ⟨q,_,_,i,_⟩:=f;⟨q,i⟩;show qdw I (by rw[e];show YO) p K (dk_new hl o (d.put k B) f)
 .subst n m;cases (show u=Value.ref b from C);obtain⟨z,o,xs,d,j⟩:=dt_of I.hok e;have hz:xs.length<=sizeLine:=by rw[<- Paired.length d];show z
  have hl:(jW kvs k v).length<=sizeLine:=by have:=jh kvs k v;lk
  show wpAny_setItem_heap (hsz:=hz) (Xg L) (qbu I.hok t) j fun h' f p=>h _ ?_;obtain⟨q,es,ep,i,D,F,G,_,J⟩:=f;show qdw I (by rw[e];show YO) p ⟨q,i⟩ ⟨hl,o,_,(d.put k t B).keeps fun c ys x=>?_,q,es,ep,i,D,F,G,J⟩;rw[qf (zB x e (fun z=>nomatch z))];show x
end
section
variable{X:Cx}{pins:List (Addr×Obj)}{σ:St}{H:Hp}{s:Shared}{a:Addr}{kvs:List (Key×V)}{k:Key}{u:Value}{A:Around}{E:Value->Shared->Prop}
theorem d_len{Q:Value->Shared->Prop}(I:Inv X pins σ H s)(e:Rd H a (.dK kvs))(h:∀ t s',Inv X pins σ H s'->Q (.int kvs.length t) s'):wpAny (model X.prog X.w) A (call (.builtin "len") [.ref a]) Q E s:=by
 obtain⟨z,d,vs,b,c⟩:=qcd I.hok e;show call_len_dict d c (by rw[<- b.length];rw[YA] at z;lk) ?_;rw[<- b.length];show h _ _ (I.tok _)
end
theorem dict_typeIs(I:Inv X pins σ H s)(g:DGet H a y o):s.TypeIs (.ref a) "dict":=by
 rcases g with⟨kvs,k,e,_,_⟩ | ⟨kvs,k,b,e,_,_,_⟩
 .obtain⟨_,_,vs,_,c⟩:=qcd I.hok e;show c.typeIs
 .obtain⟨_,_,xs,_,c⟩:=qcy I.hok e;show c.typeIs
section
variable{X:Cx}{o i e value:Expr}{pos pos' tpos:Pos}{td ty tv:TE}
end
theorem dk_empty(h:Heap)(hb:sysModules<h.objs.size):ObjOk P w H (h.push { cls:=.type "dict",data:=.dict #[] }) h.objs.size (.dK []):=
 ⟨YW _,Yz.mpr (Yd (yJ hb)),[],.nil,Heap.DictOf.new h⟩
def tDNewK:TE:=fun _ H Q=>∀ p,H p=none->Q (.ref p) (upd H p (.dK []))
section
variable{X:Cx}{pos:Pos}
theorem jX:PE X (.Dict [] [] pos) tDNewK:=fun pins s σ H Q I h =>
 wpAny_Dict_empty ⟨.ref s.heap.objs.size,_,I.laid (a:=s.heap.objs.size) (o:=.dK []) (t':=s.toks) (fun _ _ q=>yu _ q) (yh _) (dk_empty s.heap I.big),rfl,h _ (I.hok.fresh (yh _))⟩
end
noncomputable def mergeK(kvs a:List (Key×V)):List (Key×V):=a.foldl (fun acc b=>jW acc b.1 b.2) kvs
structure M1(X:Cx)(o:Expr)(m:Str)(apos:Pos)(e:Expr)(cpos:Pos):Prop where
 base:attributeBase o m X.env (eval o X.env)=eval o X.env
 few:((backTo cpos (starEach [e] X.env)).all (fun x=>!x.1)&&(backToKw cpos (keywordEach [] X.env)).all (fun x=>x.1.isSome)
  && decide (([e]:List Expr).length+([]:List Keyword).length+(if ([]:List Keyword).isEmpty then 0 else 1)<30))=true
 line:(apos.endLine==cpos.line)=true
 trees:backTo cpos (starEach [e] X.env)=[(false,eval e X.env)]
structure M2(X:Cx)(o:Expr)(m:Str)(apos:Pos)(e f:Expr)(cpos:Pos):Prop where
 base:attributeBase o m X.env (eval o X.env)=eval o X.env
 few:((backTo cpos (starEach [e,f] X.env)).all (fun x=>!x.1)&&(backToKw cpos (keywordEach [] X.env)).all (fun x=>x.1.isSome)
  && decide (([e,f]:List Expr).length+([]:List Keyword).length+(if ([]:List Keyword).isEmpty then 0 else 1)<30))=true
 line:(apos.endLine==cpos.line)=true
 trees:backTo cpos (starEach [e,f] X.env)=[(false,eval e X.env),(false,eval f X.env)]
def IsD(H:Hp)(a:Addr):Prop:=(∃ kvs,Rd H a (.dK kvs))\/∃ kvs,Rd H a (.dT kvs)
theorem isD_at(I:Inv X pins σ H s)(d:IsD H a) :
  s.TypeIs (.ref a) "dict"/\(∀ b,Value.ref a=.ref b->∃ c,s.heap.get? b=some c/\c.dict=none)/\(a==sysModules)=false:=by
 rcases d with⟨kvs,e⟩ | ⟨kvs,e⟩
 .obtain⟨_,h,vs,_,f⟩:=qcd I.hok e;show⟨f.typeIs,fun b q=>?_,h⟩;cases q;obtain⟨c,_,_,h1,g,_⟩:=f;show⟨c,h1,g.2.1⟩
 .obtain⟨_,h,xs,_,f⟩:=qcy I.hok e;show⟨f.typeIs,fun b q=>?_,h⟩;cases q;obtain⟨c,_,_,h1,g,_⟩:=f;show⟨c,h1,g.2.1⟩
section
variable{X:Cx}{pins:List (Addr×Obj)}{σ:St}{H:Hp}{s:Shared}{a:Addr}{y d:V}{u r:Value}{o:Option V}{A:Around}{E:Value->Shared->Prop}
theorem d_get1{Q:Value->Shared->Prop}(p:A.units+1<cLine)(I:Inv X pins σ H s)(g:DGet H a y o)(j:RelV y u)(h:∀ m s',Inv X pins σ H s'->RelV (o.getD .non) m->Q m s') :
  wpAny (model X.prog X.w) A (call (.builtin "dict.get") [.ref a,u]) Q E s:=by
 rcases g with⟨kvs,k,e,f,l⟩ | ⟨kvs,k,b,e,f,n,l⟩
 .subst f;obtain⟨z,i,vs,c,d⟩:=qcd I.hok e;show call_meetsIn XZ d.typeIs PySem.F.entry_dict_get (PySem.F.args_dict_get_2 _ _) (meets_dict_get (jx X.prog X.w) a (qdf j) i) ⟨_,d.mapOf,h _ _ (I.tok _) ?_⟩;rw[l];show(c.val k).getD rfl
 .subst f;cases (show u=Value.ref b from j);obtain⟨z,i,xs,c,d⟩:=qcy I.hok e;show call_meetsIn XZ d.typeIs PySem.F.entry_dict_get (PySem.F.args_dict_get_2 _ _) (meetsH_dict_get (tupleKind (jx X.prog X.w)) a b i) ⟨Xg p,k,xs,qbu I.hok n,d,h _ _ (I.tok _) ?_⟩;rw[l];show(c.val k).getD rfl
end
def qei(d ty:TE):TE:=fun σ H Q=>d σ H fun x b=>∃ a,x=.ref a/\IsD b a/\ty σ b fun y c=>∃ o,DGet c a y o/\Q (o.getD .non) c
def tDGet2(e ty f:TE):TE:=fun σ H Q=>e σ H fun x b=>∃ a,x=.ref a/\IsD b a/\ty σ b fun y d=>f σ d fun z c=>∃ o,DGet c a y o/\Q (o.getD z) c
section
variable{X:Cx}{o e f:Expr}{apos cpos:Pos}{td ty tx:TE}
theorem qau(q:X.A.units+1<cLine)(p:PE X o td)(n:PE X e ty)(m:M1 X o "get" apos e cpos):PE X (.Call (.Attribute o "get" apos) [e] [] cpos) (qei td ty):=by
 intro pins s σ H Q I h;show wpAny_Call_method m.base m.few m.line PySem.F.plainAttrs_dict XZ PySem.F.type_dict_get (thn (p pins s σ H _ I h) fun u z ⟨x,f,c,v,a,ex,d,r⟩=>?_);subst ex;obtain rfl:u=Value.ref a:=v;obtain⟨B,C,_⟩:=isD_at c d;show⟨B,C,?_⟩;rw[m.trees];show XT rfl (X7 (kq (thn (n pins z σ f _ c r) fun D G ⟨y,i,j,w,E,g,t⟩=>ky ?_)));show d_get1 q j g w fun K J l b=>⟨_,i,l,b,t⟩
end
section
variable{X:Cx}{pins:List (Addr×Obj)}{σ:St}{H:Hp}{s:Shared}{a:Addr}{kvs:List (Key×V)}{A:Around}{E:Value->Shared->Prop}
end
section
variable{X:Cx}{pins:List (Addr×Obj)}{σ:St}{H:Hp}{s:Shared}{a:Addr}{y:V}{u:Value}{A:Around}{E:Value->Shared->Prop}
end
end L2
namespace Att
open PySem PySem.W PySem.Calls PyProof.Rows
variable{P:Params}{h:Heap}{l:OpenLaw}{n:Nat}
theorem ints_of_wellAll:∀(ns:LX) (vs:List Value),WellAll P h vs (ns.map WData.int)->IntsAre vs ns:=by
 intro ns
 induction ns with
 | nil =>
  intro vs w;rw[List.map_nil] at w;cases w;show .nil
 | cons n ns ih =>
  intro vs w;rw[YF] at w
  cases w with
  | cons a b =>
   cases a;show .cons _ _ (ih _ b)
theorem script_of(p:l.most=some n){args:List WData}{c:List Value}
  (b:l.row.toRowW.claim.pre args=true) (j:WellAll P h c args) :
  ∃ a vs ns,c=[Value.ref a]/\args=[WData.list (ns.map WData.int)]/\h.get? a=some { cls:=.type "list",data:=.seq vs.toArray }/\IntsAre vs ns/\ns.length<=n:=by
 have i:WShape.hasAll [] args [.list .int]=true:=(pre_splitW b).1;have hc:l.pre.holds [] { args:=args }=true:=(pre_splitW b).2;obtain⟨d,r,rfl,h1,m⟩:=hasAllW_cons i;obtain rfl:=hasAllW_nil m;obtain⟨xs,rfl,o⟩:=hasW_list h1;obtain⟨ns,rfl⟩:=items_int o
 have e:ns.length<=n:=by
  unfold OpenLaw.pre at hc
  have f:(WTm.not (.lt (.lit (.int (n:Int))) (.len (.arg 0)))).holds [] { args:=[.list (ns.map .int)] }=true:=by
   have f:=(holds_andW hc).1;rw[p] at f;show f
  have g:=condW_of f (w_not (w_lt w_lit (w_len_list (w_arg rfl))));rw[ya] at g;show Nat.le_of_not_lt fun q=>?_;have s:(n:Int)<((ns.length:Nat):Int):=by lk
  first
   | (rw[yD s] at g;show absurd g (by decide))
   | (simp at g;lk)
 cases j with
 | cons w1 w2 =>
  cases w2
  cases w1 with
  | list ho hall=>show⟨_,_,ns,rfl,rfl,ho,ints_of_wellAll ns _ hall,e⟩
theorem post_true(l:OpenLaw)(args:List WData):l.row.toRowW.claim.post args (.bool true) args=true:=
 postW_of (r:=l.row.toRowW) (X:=(true==true))
  (show WShape.has [] (.bool true) .bool=true by first | rfl | decide | simp[WShape.has,WShape.arms,WShape.armsAll])
  (show(WTm.eq .res (.lit (.bool true))).value [] { args:=args,res:=some (.bool true),after:=args }=some (.bool (true==true)) from w_eq_bool (w_res rfl) w_lit) rfl
theorem attach_call{q:Program}{loose:LS}{XP:(Str->Option Value)->Heap->Prop}{YP:World->Heap->Prop}{d:DefRec}
  (M:l.most=some n) (u:d.params.defaults=[])
  (call:∀(w:World) (c b:Shared) (s y:Str->Option Value) (h:Addr) (o:Obj) (z p e:Value) (a:Addr) (vs:List Value) (ns:LX),
   Ground q loose [] XP w c s y b.heap->YP w b.heap ->
   b.heap.get? h=some o->o.data=.func (docDef d.name d.params d.body d.scope z p e)->b.heap.CodeRec p d.name->s d.name=some (.ref h) ->
   b.heap.get? a=some { cls:=.type "list",data:=.seq vs.toArray }->IntsAre vs ns->ns.length<=n->b.gens=#[] ->
   codeAny (model l.prog w) callerA (.call (.ref h) ⟨[.ref a],[]⟩) (fun r s'=>r=.ok (.ret (.bool true))/\OldK b.heap s'.heap/\s'.os=b.os/\AllBare s'.gens) b) :
  WalkO q loose XP YP l.row.toRowW d [] (fun f vs=>PySem.call f vs):=by
 intro w c b s y G Y h o z p e D kV N I t A v J args C as m B P x K;obtain rfl:D=.none:=Dflts.none A u;obtain rfl:kV=.none:=Dflts.noKw A;obtain⟨a,vs,ns,rfl,rfl,j,g,i⟩:=script_of M m x;show enter_call (Xf (call w c b s y h o z p e a vs ns G Y N (fd_plain I) t v j g i J) fun r s' O=>?_);obtain⟨rfl,E,F,H⟩:=O;show⟨.inl ⟨.bool true,.bool true,[],rfl,fun _=>rfl,.bool true,post_true l _,fun _=>⟨List.Pairwise.nil,fun _ L=>(nomatch L)⟩⟩,E,F,H⟩
section
variable{prog:Program}{w:World}{A:Around}{E:Value->Shared->Prop}{s:Shared}{K:Frag}
noncomputable def ledger(h:Heap)(L d:Addr):List (Addr×Obj):=(List.range h.objs.size).filterMap fun a=>if a=L\/a=d then none else(h.get? a).map fun o=>(a,o)
end
end Att
namespace L2
open PySem PySem.Spec PyProof.Rows
variable{A B:Prop}{H H':Hp}{a f:Addr}{fd:FuncData}{n:Nat}{ps:LS}{qual x:Str}{sp:Sp}{st:Stmt}
theorem qce:∀{vs:List Value} {ns:LX},IntsAre vs ns->Vals (ns.map V.int) vs
 | _,_,.nil=>.nil
 | _,_,.cons n t h=>.cons ⟨t,rfl⟩ (qce h)
def qfB(H:Hp):Prop:=∀ b,H b=none\/∃ o xs,H b=some (.frz o (.lst xs))
theorem law_call{P:Program}{w:World}{K:yg}{C O:Str->Option Value}{CX:CXT}{k:Nat}{I:Addr}{c:Shared}{vs:List Value}{ns:LX}
  (S:K.In c.heap) (t:c.heap.Ns mainGlobals C) (hb:c.heap.Ns builtinsNs O) (L:∀ x:Str,x≠"__name__"->O x=bootBuiltins x) (p:c.heap.NoLimit) (hg:c.gens=#[])
  (E:c.heap.get? a=some { cls:=.type "list",data:=.seq vs.toArray }) (X:IntsAre vs ns) (hl:ns.length<=sizeLine) (hr:Room k callerA)
  (F:∀ base:Heap,K.In base->base.Ns mainGlobals C->FnOk P w K C base CX k I fd [x] sp) (i:∀(s:Shared) (u:Value),BindsTo s fd ⟨[u],[]⟩ [(x,u)])
  (N:∀ H:Hp,qfB H->SqL K H a (ns.map V.int)->sp [.ref a] H (fun v _=>v=.bl true) fun _ _ _=>False)
  (J:∀ H e s',CX [] H c (fun _ _ _=>False) e s'->False) :
  codeAny (model P w) callerA (.call (.ref I) ⟨[.ref a],[]⟩) (fun r s'=>r=.ok (.ret (.bool true))/\OldK c.heap s'.heap/\s'.os=c.os/\AllBare s'.gens) c:=by
 have Y:=qce X;have B:=X.length;have g:∀ H:Hp,qfB H->SqL K H a (ns.map V.int)->HOk P w H c.heap->(∀ b,H b≠none->b=a)->(H a≠none->K.lookup a=none) ->
   codeAny (model P w) callerA (.call (.ref I) ⟨[.ref a],[]⟩) (fun r s'=>r=.ok (.ret (.bool true))/\OldK c.heap s'.heap/\s'.os=c.os/\AllBare s'.gens) c:=by
  intro H W hS y U hK;have base_of:∀{b:Addr} {o:Obj},c.heap.get? b=some o->H b=none->(qd5 c.heap H).get? b=some o:=fun e n=>hidT_get e n
  have R:∀{b:Addr} {o:Obj} {es:Array DictEntry} {ep:Nat},c.heap.get? b=some o->o.data=.dict es ep->H b=none:=fun{b o es ep} e d=>by
   cases q:H b with
   | none=>rfl
   | some u =>
    have G:b=a:=U b (by rw[q];simp);subst G;rw[E] at e;cases e;have d':Data.seq vs.toArray _=Data.dict es ep:=d;cases d'
  have f:∀{b:Addr} {m:Str->Option Value},c.heap.Ns b m->(qd5 c.heap H).Ns b m:=fun{b m} ⟨o,es,ep,e,d,r⟩=>⟨o,es,ep,base_of e (R e d),d,r⟩
  have l:K.In (qd5 c.heap H):=fun b o e=>base_of (S b o e) (by
   cases q:H b with
   | none=>rfl
   | some u =>
    have G:b=a:=U b (by rw[q];simp);subst G;rw[hK (by rw[q];simp)] at e;cases e)
  have hM:Mod K C (qd5 c.heap H):=⟨l,f t,⟨O,f hb,L⟩,let ⟨mc,h1,h2⟩:=p;⟨mc,f h1,h2⟩⟩;have Z:Env0 P w K C (qd5 c.heap H) callerA [] c H:=⟨rfl,hM,fun b o e=>of_hidT e,Kb (hidT_size _ _),trivial,fun b hb=>absurd (show b∈([]:LQ) from hb) (by simp),y,.of_eq hg⟩;show Xf ((F _ l (f t)).run callerA [] c H ⟨[.ref a],[]⟩ [.ref a] [.ref a] _ _ hr Z (i c (.ref a)) (.cons rfl .nil) (N H W hS)) fun r s' h=>?_
  cases r with
  | error e=>show(J H e s' h).elim
  | ok fl =>
   cases fl with
   | next=>show False.elim h
   | brk=>show False.elim h
   | cont=>show False.elim h
   | ret u =>
    obtain⟨v,H',os,j,un,A,r',q⟩:=h;have q':v=.bl true:=q;subst q';obtain rfl:u=Value.bool true:=r';show⟨rfl,OldK.of_keep fun b o e=>?_,os,j⟩
    cases q:H b with
    | none=>show un.keep b o e q (by intro z;show absurd (show b∈([]:LQ) from z) (by simp)) (by simp)
    | some u =>
     rcases W b with z | ⟨ob,xs,z⟩
     .rw [q] at z;cases z
     .have z2:=un.frzs b ob _ z;obtain⟨T,_⟩:=y b _ z;obtain⟨e2,_⟩:=A b _ z2;rw[e] at T;cases T;show e2
 cases M:K.lookup a with
 | some o =>
  have e:=S a o M;rw[E] at e;cases e;show g (fun _=>none) (fun _=>.inl rfl) (.inr ⟨_,vs.toArray,_,M,rfl,rfl,rfl,by rw[yA,B];show hl,by simpa using Y⟩) (fun b u z=>by have D:(none:Option HO)=some u:=z;cases D) (fun b z=>absurd rfl z) fun z=>absurd rfl z
 | none =>
  show g (fun b=>if b=a then some (.frz { cls:=.type "list",data:=.seq vs.toArray } (.lst (ns.map V.int))) else none) (fun b=>?_) (.inl (.inr ⟨{ cls:=.type "list",data:=.seq vs.toArray },yG rfl⟩)) (fun b u z=>?_) (fun b z=>?_) fun _=>M
  .by_cases hb:b=a
   .show .inr ⟨_,_,yG hb⟩
   .show .inl (yE hb)
  .by_cases hb:b=a
   .have D:=(yG hb).symm.trans z;cases D;subst hb;show⟨E,by rw[ya];show hl,vs,_,Y,E⟩
   .have D:=(yE hb).symm.trans z;cases D
  .by_cases hb:b=a
   .show hb
   .show absurd (yE hb) z
noncomputable abbrev KOf{K:yg}{h:Heap}(_:K.In h):yg:=K
theorem walk_of{l:PySem.W.OpenLaw}{k:Nat}{q:Program}{loose:LS}{XP:(Str->Option Value)->Heap->Prop}{YP:World->Heap->Prop}{d:DefRec}{K:Params->yg}{CX:World->CXT}{sp:World->Sp}
  (P:l.most=some n) (A:n<=sizeLine) (y:d.params.defaults=[]) (R:Room k callerA)
  (M:∀(w:World) (h:Heap),YP w h->(K w.params).In h)
  (F:∀(w:World) (j:Str->Option Value) (r:Addr) (h:Heap),(K w.params).In h->h.Ns mainGlobals j->j d.name=some (.ref r) ->
   ∃ fd:FuncData,(∀(s:Shared) (u:Value),BindsTo s fd ⟨[u],[]⟩ [(x,u)]) /\
    ∀ base:Heap,(K w.params).In base->base.Ns mainGlobals j->FnOk l.prog w (K w.params) j base (CX w) k r fd [x] (sp w))
  (B:∀(w:World) (H:Hp) (a:Addr) (ns:LX),ns.length<=n->qfB H->SqL (K w.params) H a (ns.map V.int)->sp w [.ref a] H (fun v _=>v=.bl true) fun _ _ _=>False)
  (t:∀(w:World) (H:Hp) (s:Shared) (e:Value) (s':Shared),CX w [] H s (fun _ _ _=>False) e s'->False) :
  PySem.W.WalkO q loose XP YP l.row.toRowW d [] (fun f vs=>PySem.call f vs):=by
 show Att.attach_call P y fun w D p j Z r o pm S E a vs ns G Y X U N z m i c O=>?_;have C:=M w _ Y;obtain⟨fd,hb,I⟩:=F w j r _ C G.T.g z;show law_call C G.T.g G.T.b G.T.builtins G.T.nolimit O m i (yi c A) R I hb (fun H J L=>B w H a ns c J L) fun H e s'=>t w H p e s'
abbrev CX0:CXT:=fun _ _ _ _ _ _=>False
abbrev E0:XK:=fun _ _ _=>False
theorem qz{X:Cx}:zM CX0 X E0:=fun _ _ _ _ _ _ _ h=>h.elim
structure Fun(K:yg)(x qual:Str)(st:Stmt)(f:Addr)(fd:FuncData):Prop where
 ex:∃(oc:Value) (od:Option Addr) (kV doc pm:Value) (an:Option Addr) (cdv ct:Value) (osl:Array (Option Value)),
  fd=PySem.W.fnOf x qual (qam st) (zD st) (qh st) .none kV doc pm an cdv ct/\K.lookup f=some ⟨oc,od,.func fd,osl⟩/\PySem.W.codeIn K cdv qual=true
 kp:PySem.W.keepIn K (.ref f)=true
section
variable{P:Program}{w:World}{K:yg}{mg:Str->Option Value}{base:Heap}
theorem Fun.ok{N:LS}{k:Nat}(F:Fun K x qual st f fd)(S:FnScope N ps (qh st)) (c:∀(b:Value) (A:Around) (a:List Env) (s:Shared) (H:Hp) (vs:List V) (Q:VK) (E:XK),Room k (A.deeper (envOfC qual (qh st) s.heap.objs.size f b))->sp vs H Q E ->
   ∃ t,PSs (qeg CX0 P w K mg base N qual (qh st) f b A a s H E).nox (zD st) t/\t { nx:=fun _ H'=>Q .non H',rt:=Q } (start N vs) H) (len:∀ vs H Q E,sp vs H Q E->vs.length=ps.length:=by intro _ _ _ _ h;cases h;subst_vars;rfl):FnOk P w K mg base CX0 (k+1) f fd ps sp:=by
 obtain⟨n,od,kV,g,o,m,b,ct,l,rfl,j,d⟩:=F.ex;show qe7 j d S len fun A a s H vs Q E i e=>?_;obtain⟨t,h,q⟩:=c b A a s H vs Q E i e;show⟨t,h.nox,q⟩
theorem Fun.binds(F:Fun K x qual st f fd)
  (h:∀(kV b d:Value) (c:Option Addr) (a ct:Value) (us:List Value),us.length=ps.length->bindArgs (PySem.W.fnOf x qual (qam st) (zD st) (qh st) .none kV b d c a ct) ⟨us,[]⟩=pure (ps.zip us)):Binds K fd ps []:=by
 obtain⟨j,od,kV,b,d,c,a,ct,g,rfl,i,e⟩:=F.ex;show .all (h kV b d c a ct)
theorem fun_mk{h:Value}{od e:Option Addr}{d:Array (Option Value)}{kV b g a ct:Value}(l:K.lookup f=some ⟨h,od,.func (PySem.W.fnOf x qual (qam st) (zD st) (qh st) .none kV b g e a ct),d⟩)
  (c:PySem.W.codeIn K a qual=true) (k:PySem.W.keepIn K (.ref f)=true):Fun K x qual st f (PySem.W.fnOf x qual (qam st) (zD st) (qh st) .none kV b g e a ct):=⟨⟨h,od,kV,b,g,e,a,ct,d,rfl,l,c⟩,k⟩
end
theorem qi(h:n<=1000):n<sizeLine:=Yx h (by decide)
section
variable{X:Cx}
theorem pv(i:Nat){b:Pos}(c:X.N[i]?=some x:=by rfl)(hv:Vis X.env.scope x:=by first | show yP rfl | show Xu (yP rfl) | show Xu (Xu rfl))(d:(x==("__debug__":Str))=false:=by decide)
  (a:(x==("__classdict__":Str))=false:=by decide):PE X (.Name x b) (qeY i):=pe_var c hv d a
theorem call_lenD:zL X (.builtin "len") (fun xs H Q=>∃ a kvs,xs=[V.ref a]/\H a=some (.dK kvs)/\Q (.int kvs.length) H):=by
 intro b s f H xs us Q I r h;obtain⟨a,kvs,rfl,d,q⟩:=h;obtain⟨u,rfl,e⟩:=qbl r;cases e;show d_len I (.inl d) fun t s' c=>⟨.int kvs.length,H,c,⟨t,rfl⟩,q⟩
end
theorem zA(h:A):if true=true then A else B:=by
 rw[yG rfl];show h
theorem qJ{c:Prop}[Decidable c](h1:c->A)(a:¬ c->B):if c then A else B:=by
 by_cases h:c
 .rw [yG h];show h1 h
 .rw [yE h];show a h
def Same(H H':Hp):Prop:=∀ b o,H b=some o->H' b=some o
theorem Same.refl(H:Hp):Same H H:=fun _ _ h=>h
theorem Same.trans{d e:Hp}(a:Same H d)(b:Same d e):Same H e:=fun c o h=>b c o (a c o h)
theorem Same.free(e:Same H H'){l:Addr}(h:H' l=Option.none):H l=Option.none:=by
 cases q:H l with
 | none=>rfl
 | some o =>
  rw[e l o q] at h;cases h
theorem Same.seq{K:yg}{xs:List V}(e:Same H H')(h:SqL K H a xs):SqL K H' a xs:=by
 rcases h with(h | ⟨o,h⟩) | h
 .show .inl (.inl (e _ _ h))
 .show .inl (.inr ⟨o,e _ _ h⟩)
 .show .inr h
section
variable{κ:Type}[DecidableEq κ]
end
end L2
set_option maxHeartbeats 4000000
namespace L2
open PySem PySem.Spec PyProof.Rows
variable{A:Around}{C D a a0 c e f it p:Addr}{E:Value->Shared->Prop}{H H':Hp}{M:Model}{N:LS}{P prog:Program}{QO:Option Int->Hp->Prop}{R:It->Hp->Prop}{T:String}{X:Cx}{acc:List (Str×Addr)}{b expr:Bool}{dx:Option Addr}{elt iter tg:Expr}{env:Env}{fl t u:Value}{fp zs:LQ}{g:TG}{h h':Heap}{i j:Int}{ifs:List Expr}{its l us:List Value}{ixs:LN}{n nl:Nat}{names:List (Str×NameKind)}{od:Option Obj}{ox:Obj}{pins:List (Addr×Obj)}{pl:Sem Bool}{pos:Pos}{qual x z:Str}{s:Shared}{sc scope:Scope}{sp:Sp}{tc:TT}{te:TE}{tk:Tok}{v y:V}{vs:Array Value}{w:World}{wi:TI}{xs ys:List V}{σ:St}
section
variable{prog:Program}{w:World}{A:Around}{R:Result->Shared->Prop}{s:Shared}
theorem compLoop_own{a:Expr}{it acc:Value}(I:Nat->Shared->Prop)
  (turn:∀ n s,I n s->wpAny (model prog w) A (pyNext it) (fun r e=>match r with
   | none=>R (.ok .next) e
   | some v=>wpAny (model prog w) A (letOwnedTupleGo a it v) (fun _ b=>wpAny (model prog w) A (assign a env v) (fun _ i =>
     wpAny (model prog w) A (forIn ifs true fun c r=>if r=true then do let ok <- isTrue c env (eval c env);pure (ForInStep.yield ok) else pure (ForInStep.yield r)) (fun ok f =>
      if ok=true then wpAny (model prog w) A (eval elt env) (fun x j =>
       wpAny (model prog w) A (call (.builtin "list.append") [acc,x]) (fun _ l=>∃ m,m<n/\I m l) (fun _ _=>False) j) (fun _ _=>False) f
      else ∃ m,m<n/\I m f) (fun _ _=>False) i) (fun _ _=>False) b) (fun _ _=>False) e) (fun _ _=>False) s)
  (n:Nat) (h:I n s) :
  codeAny (model prog w) A (.compLoop (.ListComp elt [⟨a,iter,ifs,0⟩] scope pos) 0 it acc env) R s:=by
 show codeAny_loop rfl I (fun n s t=>?_) n h;show wpAny _ A ((compTurn (.ListComp elt [⟨a,iter,ifs,0⟩] scope pos) 0 it acc env).onRaise (fun x=>do noteFrame x env;theTreesLotGoes x)) _ _ s;show wpAny_noted ?_;rw[compTurn_list];show yr (XD (yr (YE (turn n s t) (fun r e h1=>?_) fun _ _ h'=>h'.elim)))
 cases r with
 | none=>show yw h1
 | some v =>
  show yr (YE h1 (fun _ b d=>?_) fun _ _ h'=>h'.elim);show yr (YE d (fun _ i o=>yr (YE o (fun ok f g=>?_) fun _ _ h'=>h'.elim)) fun _ _ h'=>h'.elim)
  cases ok with
  | false=>show yw ⟨rfl,g⟩
  | true =>
   show yr (yr (YE g (fun x j p=>yr (YE p (fun _ l q=>yw (yw ⟨rfl,q⟩)) fun _ _ h'=>h'.elim)) fun _ _ h'=>h'.elim))
end
noncomputable def qO(env:Env):List (Str×NameKind)->List (Str×Addr)->List (Str×Addr)
 | [],acc=>acc
 | (n,k)::r,acc=>qO env r (if (k==.free)=true then(n,(env.cells.lookup n).getD 0)::acc else acc)
theorem zE:∀{names:List (Str×NameKind)} {acc:List (Str×Addr)} {x:Str} {c:Addr},(qO env names acc).lookup x=some c ->
  ((x,NameKind.free)∈names/\c=(env.cells.lookup x).getD 0)\/acc.lookup x=some c
 | [],_,_,_,h=>.inr h
 | (n,k)::r,acc,x,c,h=>by
  unfold qO at h;rcases zE h with⟨h1,f⟩ | h1
  .show .inl ⟨yN _ h1,f⟩
  .by_cases a:(k==NameKind.free)=true
   .rw [yG a,xX] at h1
    cases b:x==n with
    | true =>
     rw[b] at h1;have e:x=n:=Ye.mp b;have d:k=.free:=Ye.mp a;subst e d;show .inl ⟨yY,(ym h1).symm⟩
    | false =>
     rw[b] at h1;show .inr h1
   .rw [yE a] at h1;show .inr h1
theorem qav:∀{names:List (Str×NameKind)} {acc:List (Str×Addr)} {x:Str},(∃ c,acc.lookup x=some c)->∃ c,(qO env names acc).lookup x=some c
 | [],_,_,h=>h
 | (n,k)::r,acc,x,h=>by
  unfold qO;apply qav;by_cases a:(k==NameKind.free)=true
  .rw [yG a,xX]
   cases b:x==n with
   | true=>show⟨_,rfl⟩
   | false=>show h
  .rw [yE a];show h
theorem zF:∀{names:List (Str×NameKind)} {acc:List (Str×Addr)} {x:Str},(x,NameKind.free)∈names->∃ c,(qO env names acc).lookup x=some c
 | [],_,_,h=>by cases h
 | (n,k)::r,acc,x,h=>by
  unfold qO;rcases yz.mp h with e | e
  .cases e;apply qav;rw[show(NameKind.free==NameKind.free)=true from rfl,yG rfl,xX,xE];show⟨_,rfl⟩
  .show zF e
theorem qaw(h:∀ n,(n,NameKind.free)∈scope.names->∃ c,env.cells.lookup n=some c):closureFor scope env=pure (qO env scope.names []):=by
 have key:∀(names:List (Str×NameKind)) (acc:List (Str×Addr)),(∀ n,(n,NameKind.free)∈names->∃ c,env.cells.lookup n=some c) ->
   (forIn names acc (fun(x:Str×NameKind) (r:List (Str×Addr))=>(if (x.2==NameKind.free)=true then(cellOf env x.1>>=fun c=>pure (ForInStep.yield ((x.1,c)::r))) else pure (ForInStep.yield r):Sem (ForInStep (List (Str×Addr))))))=(pure (qO env names acc):Sem (List (Str×Addr))):=by
  intro names
  induction names with
  | nil=>intro acc _;rfl
  | cons x r ih =>
   intro acc d;obtain⟨n,k⟩:=x;rw[kY];unfold qO;by_cases a:(k==NameKind.free)=true
   .have f:k=.free:=Ye.mp a;subst f;obtain⟨c,hc⟩:=d n yY;have g:cellOf env n=pure c:=by unfold cellOf;rw[hc]
    simp only[a,Xp,g,hc,Option.getD_some];show ih _ fun m b=>d m (yN _ b)
   .simp only[a,XS];show ih _ fun m b=>d m (yN _ b)
 have e:=key scope.names [] h;unfold closureFor;show Eq.trans (congrArg (fun m=>m>>=pure) e) rfl
@[reducible] noncomputable def Cx.comp(X:Cx)(N:LS)(scope:Scope)(C:Addr)(s0:Shared)(H0:Hp)(ex:LQ):Cx where
 prog:=X.prog
 w:=X.w
 K:=X.K
 mg:=X.mg
 base:=X.base
 A:=X.A
 N:=N
 s₀:=s0
 H₀:=H0
 env:=compEnvC scope (cellsFrom (C+1) scope.names (qO X.env scope.names [])) C X.env
 outer:=X.stack
 stack:=X.stack
 ex:=ex
 fn:=fun x=>scope.names.lookup x==some NameKind.cell
 calm:=X.calm
 pn:=[]
 xe:=fun _ _=>False
theorem jy:∀(names:List (Str×NameKind)) (n:Nat) (acc:List (Str×Addr)),cellsFrom n names acc=cellsFrom n names []++acc
 | [],_,_=>rfl
 | (m,k)::r,n,acc=>by
  unfold cellsFrom;split
  .rw [jy r (n+1) ((m,n)::acc),jy r (n+1) [(m,n)],yW];rfl
  .show jy r n acc
theorem qax:∀{names:List (Str×NameKind)} {n:Nat} {x:Str},(x,NameKind.cell)∈names->∃ c,(cellsFrom n names []).lookup x=some c
 | (m,k)::r,n,x,h=>by
  unfold cellsFrom;rcases yz.mp h with e | e
  .cases e;rw[yG (show(NameKind.cell==NameKind.cell)=true from rfl),jy,xH]
   cases q:(cellsFrom (n+1) r []).lookup m with
   | some c=>show⟨c,rfl⟩
   | none=>show⟨n,by show List.lookup m [(m,n)]=some n;rw[xX,xE]⟩
  .split
   .rw [jy,xH];obtain⟨c,hc⟩:=qax (n:=n+1) e;show⟨c,by rw[hc];rfl⟩
   .show qax e
theorem qa9:∀{names:List (Str×NameKind)} {n:Nat} {x:Str} {c:Addr},(x,c)∈cellsFrom n names []->(x,NameKind.cell)∈names
 | (m,k)::r,n,x,c,h=>by
  unfold cellsFrom at h;split at h
  .rename_i hk
   rw[jy] at h;rcases yx.mp h with z | z
   .show yN _ (qa9 z)
   .have e:(x,c)=(m,n):=yv.mp z;cases e;rw[Ye.mp hk];show yY
  .show yN _ (qa9 h)
theorem qba(h:(cellsFrom n names acc).lookup x=some c):(x,c)∈cellsFrom n names []\/acc.lookup x=some c:=by
 rw[jy,xH] at h
 cases e:(cellsFrom n names []).lookup x with
 | some d=>rw[e] at h;cases h;show .inl (mem_of_lookup e)
 | none=>rw[e] at h;show .inr h
theorem cells_some(h:(x,NameKind.cell)∈names\/∃ c,acc.lookup x=some c):∃ c,(cellsFrom n names acc).lookup x=some c:=by
 rw[jy,xH]
 cases e:(cellsFrom n names []).lookup x with
 | some d=>show⟨d,rfl⟩
 | none =>
  rcases h with z | ⟨c,hc⟩
  .obtain⟨d,a⟩:=qax (n:=n) z;rw[e] at a;cases a
  .show⟨c,hc⟩
section
variable{M:Model}{A:Around}{E:Value->Shared->Prop}{s:Shared}
theorem newEnvK{c:Addr}{b:List (Str×Addr)}{f:Option Addr}{e:Value}{d:Env}{a:Addr}{Q:Env->Shared->Prop}
  (i:Q (newEnv scope s.heap.objs.size c (cellsFrom (s.heap.objs.size+1) scope.names b) qual f e (some d) a) { s with heap:=pushCells (s.heap.push { cls:=.type "dict",data:=.dict #[] }) scope.names }) :
  wpAny M A (newFunctionEnv scope c b [] qual f e (some d) a) Q E s:=by
 simp only[newFunctionEnv,Option.isSome_some,Xp];show yr (wpAny_alloc ?_);show yr (wpAny_layCells _ (fun name kind g=>by cases h:kind==NameKind.cell<;>simp[h]) _ _ _ _ ?_);rw[show({ s with heap:=s.heap.push { cls:=.type "dict",data:=.dict #[] } }:Shared).heap.objs.size=s.heap.objs.size+1 from YI ..];rw[k8];show yr (yw (yw i))
end
structure CompOk(sc scope:Scope):Prop where
 kind:scope.kind=.function
 cel:∀ y∈scope.names,y.2=.cell->scope.names.lookup y.1=some .cell
 loc:∀ y∈scope.names,y.2=.local->scope.names.lookup y.1=some .local
 free:∀ y∈scope.names,y.2=.free->sc.names.lookup y.1=some .cell\/sc.names.lookup y.1=some .free
 once:∀ y∈scope.names,y.2=.free->scope.names.lookup y.1=some .free
noncomputable def qd8(sc scope:Scope):Bool:=decide (scope.kind=.function)&&scope.names.all fun y=>match y.2 with
 | .local=>scope.names.lookup y.1==some .local
 | .free=>(sc.names.lookup y.1==some .cell||sc.names.lookup y.1==some .free)&&scope.names.lookup y.1==some .free
 | .cell=>scope.names.lookup y.1==some .cell
 | _=>true
theorem qcU(h:qd8 sc scope=true):CompOk sc scope:=by
 unfold qd8 at h;rw[Yh] at h;have b:=Ys.mp h.2;show⟨yk h.1,fun y a e=>?_,fun y a e=>?_,fun y a e=>?_,fun y a e=>?_⟩
 .have:=b y a;rw[e] at this;show Ye.mp this
 .have:=b y a;rw[e] at this;show Ye.mp this
 .have:=b y a;rw[e,Yh,Bool.or_eq_true] at this;show this.1.imp Ye.mp Ye.mp
 .have:=b y a;rw[e,Yh] at this;show Ye.mp this.2
noncomputable def qfC(nl:Nat)(ixs:LN)(N XN:LS)(names:List (Str×NameKind)):Bool:=(List.range ixs.length).all fun k=>match ixs[k]?,N[nl+k]? with
 | some j,some x=>XN[j]?==some x&&names.any fun y=>y.1==x&&y.2==.free
 | _,_=>true
theorem qdx{XN:LS}(h:qfC nl ixs N XN names=true)(k j:Nat)(x:Str)(h1:ixs[k]?=some j)(c:N[nl+k]?=some x):XN[j]?=some x/\(x,NameKind.free)∈names:=by
 have d:k<ixs.length:=(yc.mp h1).1;have:=Ys.mp h k (xV.mpr d);rw[h1,c] at this;simp only[Yh] at this;show⟨Ye.mp this.1,?_⟩;obtain⟨⟨n,g⟩,f,e⟩:=xY.mp this.2;rw[Yh] at e;have a:n=x:=Ye.mp e.1;have b:g=.free:=Ye.mp e.2;subst a b;show f
noncomputable def qdn(nl:Nat)(ixs:LN)(σ:St):St:=List.replicate nl none++ixs.map fun j=>(σ[j]?).getD none
theorem capS_len(nl:Nat)(ixs:LN)(σ:St):(qdn nl ixs σ).length=nl+ixs.length:=by
 unfold qdn;rw[yt,YX,ya]
theorem qcV{i:Nat}(h:(qdn nl ixs σ)[i]?=some (some v)):nl<=i/\∃ j,ixs[i-nl]?=some j/\σ[j]?=some (some v):=by
 unfold qdn at h;by_cases a:i<nl
 .rw [yF (by rw[YX];show a),XH] at h;split at h<;>cases h
 .rw [yB (by rw[YX];lk),YX,yd] at h;show⟨by lk,?_⟩
  cases e:ixs[i-nl]? with
  | none=>rw[e] at h;cases h
  | some j =>
   rw[e] at h;have h':(σ[j]?).getD none=some v:=ym h
   cases q:σ[j]? with
   | none=>rw[q] at h';cases h'
   | some u =>
    rw[q] at h';show⟨j,rfl,by rw[q];show congrArg some h'⟩
noncomputable def qd9(env:Env)(y:Str×NameKind):Str×NameKind:=if (y.2==NameKind.free&&env.scope.kind==.function&&env.kindOf y.1==some .cell)=true then(y.1,NameKind.cell) else(y.1,y.2)
theorem relF_fst(env:Env)(y:Str×NameKind):(qd9 env y).1=y.1:=by unfold qd9;split<;>rfl
theorem relF_snd(env:Env)(y:Str×NameKind):(qd9 env y).2=y.2\/((qd9 env y).2=.cell/\y.2=.free):=by
 unfold qd9;split
 .rename_i h
  rw[Yh,Yh] at h;show .inr ⟨rfl,Ye.mp h.1.1⟩
 .show .inl rfl
theorem zl:∀{names:List (Str×NameKind)} {x:Str} {k:NameKind},(names.map (qd9 env)).lookup x=some k->∃ b,names.lookup x=some b/\(x,b)∈names/\(k=b\/(k=.cell/\b=.free))
 | [],_,_,h=>by cases h
 | (n,k1)::r,x,k,h=>by
  rw[YF,show qd9 env (n,k1)=((qd9 env (n,k1)).1,(qd9 env (n,k1)).2) from rfl,xX,relF_fst] at h;rw[xX]
  cases c:x==n with
  | true =>
   have e:x=n:=Ye.mp c;subst e;have a:(x==(x,k1).1)=true:=c;rw[a] at h;have h':=ym h;show⟨k1,rfl,yY,?_⟩;rcases relF_snd env (x,k1) with z | ⟨z1,z2⟩
   .show .inl (h'.symm.trans z)
   .show .inr ⟨h'.symm.trans z1,z2⟩
  | false =>
   have a:(x==(n,k1).1)=false:=c;rw[a] at h;obtain⟨b,d,f,g⟩:=zl h;show⟨b,d,yN _ f,g⟩
section
variable{X:Cx}{pins:List (Addr×Obj)}{σ:St}{H:Hp}{s:Shared}
theorem comp_free_of{b:List (Str×Addr)}(h:(compEnvC scope b C X.env).kindOf x=some .cell\/(compEnvC scope b C X.env).kindOf x=some .free):(x,NameKind.cell)∈scope.names\/(x,NameKind.free)∈scope.names:=by
 rcases h with h | h
 .obtain⟨c,_,a,e | ⟨_,e⟩⟩:=zl (env:=X.env) (names:=scope.names) h
  .rw [<- e] at a;show .inl a
  .rw [e] at a;show .inr a
 .obtain⟨c,_,a,e | ⟨e,_⟩⟩:=zl (env:=X.env) (names:=scope.names) h
  .rw [<- e] at a;show .inr a
  .cases e
theorem Inv.comp{R:Obj}{h1:Heap}{tk:Nat}(I:Inv X pins σ H s)(O:CompOk X.env.scope scope)
  (hN:N.length=nl+ixs.length) (G:∀(k j:Nat) (x:Str),ixs[k]?=some j->N[nl+k]?=some x->X.N[j]?=some x/\(x,NameKind.free)∈scope.names)
  (M:∀ b∈fp,qcv X pins H b) (J:∀ b∈fp,b<s.heap.objs.size) (L:s.heap.objs.size<=C) (U:s.heap.objs.size<=D) (W:D≠C) (ab:h1.Ns C fun _=>none) (k:∀ b o,s.heap.get? b=some o->h1.get? b=some o)
  (ac:h1.get? D=some R) (Z:∀ v,R.data≠.cell v) (B:CellsOk h1 (C+1) (cellsFrom (C+1) scope.names [])):Inv (X.comp N scope C s H fp) [(D,R)] (qdn nl ixs σ) H { s with heap:=h1,toks:=tk }:=by
 have a:∀ x c,(qO X.env scope.names []).lookup x=some c->X.env.cells.lookup x=some c/\(x,NameKind.free)∈scope.names:=fun x c h=>by
  rcases zE h with⟨h1,K⟩ | h1
  .obtain⟨F,l⟩:=I.ok.has x (by
    rcases O.free _ h1 rfl with z | z
    .show .inl z
    .show .inr z)
   rw[l] at K;show⟨by rw[l,K];rfl,h1⟩
  .cases h1
 have big:∀ c:Addr,C+1<=c->s.heap.objs.size<=c:=fun c h=>yi L (Nat.le_of_succ_le h);have no:∀{P:Prop} {c:Addr},C+1<=c->c<s.heap.objs.size->P:=fun h g=>absurd (yj g (big _ h)) (Yu _)
 have all:∀ x c,(cellsFrom (C+1) scope.names (qO X.env scope.names [])).lookup x=some c->((x,c)∈cellsFrom (C+1) scope.names []/\C+1<=c/\h1.IsCell c none)\/(X.env.cells.lookup x=some c/\c<s.heap.objs.size):=fun x c h=>by
  rcases qba h with z | z
  .show .inl ⟨z,(B.empty _ _ z).2,(B.empty _ _ z).1⟩
  .obtain⟨_,q⟩:=I.cell x c (a x c z).1;show .inr ⟨(a x c z).1,q.lt⟩
 show⟨⟨I.ok.mod,O.kind,I.ok.glob,I.ok.blt,L,fun x y c h1 K=>?inj,fun x hx=>cells_some ((comp_free_of hx).imp id zF),fun x c z h=>?cab,I.ok.hd,I.ok.frames,.inl rfl,
   fun b hb=>⟨yJ (yj (J b hb) L),fun x c e=>?exf⟩,I.bs,yi I.ok.bsz I.sz,fun b o e hb=>?_,fun b hb z=>?_,I.stack,I.stkFree⟩,
  rfl,I.bare,Un.kept k,⟨_,ab,fun i x v e1 e2 e3=>?_⟩,fun x c e=>?_,I.hok.fresh L,fun x c e=>?fre,fun p hp=>?_,I.hok.kept k,?_⟩
 case inj =>
  rcases all x c h1 with⟨r,f,_⟩ | ⟨r,f⟩<;>rcases all y c K with⟨S,T,_⟩ | ⟨S,T⟩
  .show name_of_addr B.apart r S
  .show no f T
  .show no T f
  .show I.ok.inj x y c r S
 case cab =>
  rcases all x c h with⟨_,f,_⟩ | ⟨r,f⟩
  .show big _ f
  .exfalso;obtain⟨d,E⟩:=qax (n:=C+1) (mem_of_lookup (Ye.mp z));have h:(cellsFrom (C+1) scope.names (qO X.env scope.names [])).lookup x=some c:=h;rw[jy,xH,E] at h;cases h;show no (B.empty _ _ (mem_of_lookup E)).2 f
 case exf =>
  rcases all x c e with⟨_,f,_⟩ | ⟨r,_⟩
  .show fun z=>no f (by rw[z];show J b hb)
  .show(M b hb).2.2.2.2.1 x c r
 case fre =>
  rcases all x c e with⟨_,f,_⟩ | ⟨r,_⟩
  .show I.hok.fresh (big _ f)
  .show I.freeC x c r
 .rcases(M b hb).2.2.2.1 with z | z
  .show I.ok.noex b o e z
  .have:=(I.ok.bs b o e).1;show absurd (yj (yI this) z) (Yu _)
 .rcases yz.mp (I.stkSub b z) with e | e
  .show(M b hb).2.1 e
  .show(M b hb).2.2.1 e
 .obtain⟨hi,j,hj,hv⟩:=qcV e2;obtain⟨hx,t⟩:=G (i-nl) j x hj (by rw[Nat.add_sub_cancel' hi];show e1);obtain⟨m,hn,hl⟩:=I.loc;have B:=O.free _ t rfl
  obtain⟨u,ru,lk⟩:=hl j x v hx hv (by
   rcases B with z | z
   .show .inr (.inl z)
   .show .inr (.inr z))
  show⟨u,ru,?_⟩;rcases lk with⟨aa,_⟩ | ⟨_,c,hc,A⟩
  .have w:X.env.scope.names.lookup x=some .local:=aa;rcases B with z | z<;>· rw[z] at w;cases w
  .obtain⟨F,l⟩:=zF (env:=X.env) (acc:=[]) t
   have e:F=c:=by
    have:=(a x F l).1;rw[hc] at this;show(ym this).symm
   subst e
   have Y:(cellsFrom (C+1) scope.names (qO X.env scope.names [])).lookup x=some F:=by
    rw[jy,xH]
    cases q:(cellsFrom (C+1) scope.names []).lookup x with
    | none=>show l
    | some d=>have:=O.cel _ (qa9 (mem_of_lookup q)) rfl;rw[O.once _ t rfl] at this;cases this
   show .inr ⟨?_,F,Y,?_⟩
   .rcases e3 with z | z | z
    .obtain⟨k0,z3,_,e | ⟨e,_⟩⟩:=zl (env:=X.env) (names:=scope.names) z
     .rw [O.once _ t rfl] at z3;cases z3;cases e
     .cases e
    .show .inl z
    .show .inr z
   .obtain⟨o,ho,E⟩:=A;show⟨o,k _ _ ho,E⟩
 .rcases all x c e with⟨_,_,a3⟩ | ⟨r,_⟩
  .show⟨none,a3⟩
  .obtain⟨v,o,ho,E⟩:=I.cell x c r;show⟨v,o,k _ _ ho,E⟩
 .have e:p=(D,R):=by simpa using hp
  subst e;show⟨ac,I.hok.fresh U,W,fun z=>?_,Z⟩;rcases yz.mp (I.stkSub D z) with e | e
  .show absurd (show X.env.locals<D from yj I.lt U) (by rw[e];show Yu _)
  .show I.nofs U e
 .show(qdn nl ixs σ).length=N.length;rw[capS_len,hN]
theorem Inv.compBack{s':Shared}{i:St}(I:Inv X pins σ H s)(g:∀ b∈fp,qcv X pins H b)(t:s.heap.objs.size<=C)(j:s.heap.objs.size<=D)
  (J:Inv (X.comp N scope C s H fp) [(D,{ cls:=.type "list",data:=.seq its.toArray n })] i H' s') (hv:Vals ys its) (hz:ys.length<=sizeLine):Inv X pins σ (upd H' D (.lst ys)) s':=by
 obtain⟨p,f,m,_,_⟩:=J.pin (D,{ cls:=.type "list",data:=.seq its.toArray n }) (yR _ (yv.mpr rfl));have h:∀ b o,s.heap.get? b=some o->b≠D:=fun b o e=>yJ (yj (yI e) j);have a:=J.base;show I.call' (ch:=fp) J.os ⟨a.keep,a.slot,fun b o e n l=>?_,a.there,fun b xs e=>?_,fun b o u e=>?_,fun b r e=>?_⟩ (fun b u e=>?_) J.bare fun b hb=>⟨(g b hb).2.2.2.1,(g b hb).2.1,(g b hb).2.2.2.2.1,(g b hb).2.2.2.2.2⟩
 .rw [qf (h b o e)];show a.free b o e n l
 .have q:=a.tups b xs e;rw[qf (qI q f)];show q
 .have q:=a.frzs b o u e;rw[qf (qI q f)];show q
 .obtain⟨d,q⟩:=a.tbls b r e;show⟨d,by rw[qf (qI q f)];show q⟩
 .by_cases hb:b=D
  .subst hb;rw[qb] at e;cases e;show⟨hz,its,n,hv,p⟩
  .rw [qf hb] at e;show(J.hok b u e).stay (fun c v _ q=>q) (fun c q=>by rw[qf (qI q f)];show q) fun c xs q=>by rw[qf (qI q f)];show q
end
def qfD:TT:=fun _ H Q=>Q true H
def qeI(wi:TI)(g:TG)(tc:TT)(te:TE)(nl:Nat)(ixs:LN):TE:=fun σ H Q=>wi σ H fun J e =>
 ∃ W:Nat->Nat->List V->Hp->Prop,(∃ m,W 0 m [] e)/\∀ i m ys H,W i m ys H ->
  (J.stop i H/\ys.length<=sizeLine/\∀ p,H p=none->Q (.ref p) (upd H p (.lst ys))) \/
  (J.go i H/\∃ M:List V->Hp->Prop,(∀ ys' H',M ys' H'->∃ d,d<m/\W (i+1) d ys' H')/\∀ x H',J.yld i H x H'->g x (qdn nl ixs σ) H' fun a f=>tc a f fun b c =>
   if b=true then te a c fun v h=>ys.length<sizeLine/\M (ys++[v]) h else M ys c)
def qdy(nl:Nat)(g:TG):Prop:=∀ x σ H Q,g x σ H Q->g x σ H fun a b=>Q a b/\a.length=σ.length/\∀ i,nl<=i->a[i]?=σ[i]?
theorem qW{i:Nat}(h:i<nl:=by decide):qdy nl (qbk i):=fun x σ H Q q=>⟨q,kc ..,fun j a=>xr (by lk)⟩
def qfa(X:Cx)(ifs:List Expr)(tc:TT):Prop:=
 ∀(pins:List (Addr×Obj)) (s:Shared) (σ:St) (H:Hp) (Q:Bool->Hp->Prop),Inv X pins σ H s->tc σ H Q ->
  wpAny (model X.prog X.w) X.A (forIn ifs true fun c r=>if r=true then do let ok <- isTrue c X.env (eval c X.env);pure (ForInStep.yield ok) else pure (ForInStep.yield r)) (TP X pins σ Q) X.xe s
theorem zm:qfa X [] qfD:=fun pins s σ H Q I h=>wpAny_tests_nil ⟨H,I,h⟩
theorem ji{c:Expr}(h:PT X c tc):qfa X [c] tc:=fun pins s σ H Q I q=>wpAny_tests_one (h pins s σ H Q I q)
section
variable{X:Cx}{pins:List (Addr×Obj)}{σ:St}{H:Hp}{s:Shared}
theorem qbv{tn:Nat->Heap->Prop}{J:It}{Q:V->Hp->Prop}
  {RR:Value->Addr->Result->Shared->Prop} (I:Inv X pins σ H s) (hc:X.calm=true) (O:CompOk X.env.scope scope)
  (hN:N.length=nl+ixs.length) (ah:∀(k j:Nat) (x:Str),ixs[k]?=some j->N[nl+k]?=some x->X.N[j]?=some x/\(x,NameKind.free)∈scope.names)
  (T:Turn X.prog X.w X.K tg J fp it tn) (st:tn 0 s.heap) (hf:∀ b∈fp,qcv X pins H b)
  (hg:∀ C s0 H0 ex,PG (X.comp N scope C s0 H0 ex) tg g) (gk:qdy nl g) (hi:∀ C s0 H0 ex,qfa (X.comp N scope C s0 H0 ex) ifs tc) (he:∀ C s0 H0 ex,PE (X.comp N scope C s0 H0 ex) elt te)
  (h:∃ W:Nat->Nat->List V->Hp->Prop,(∃ m,W 0 m [] H)/\∀ i m ys H,W i m ys H ->
   (J.stop i H/\ys.length<=sizeLine/\∀ p,H p=none->Q (.ref p) (upd H p (.lst ys))) \/
   (J.go i H/\∃ M:List V->Hp->Prop,(∀ ys' H',M ys' H'->∃ m',m'<m/\W (i+1) m' ys' H')/\∀ x H',J.yld i H x H'->g x (qdn nl ixs σ) H' fun an a=>tc an a fun b H3 =>
    if b=true then te an H3 fun v H4=>ys.length<sizeLine/\M (ys++[v]) H4 else M ys H3))
  (au:∀(D C:Addr) (s':Shared) (H':Hp) (P:St) (ys:List V) (its:List Value) (n:Nat),s.heap.objs.size<=C->s.heap.objs.size<=D->Inv (X.comp N scope C s H fp) [(D,{ cls:=.type "list",data:=.seq its.toArray n })] P H' s'->Vals ys its->ys.length<=sizeLine ->
   (∀ p,H' p=none->Q (.ref p) (upd H' p (.lst ys)))->RR (.ref D) C (.ok .next) s') :
  wpAny (model X.prog X.w) X.A (newList []) (fun acc s3=>wpAny (model X.prog X.w) X.A (newFunctionEnv scope X.env.globals (qO X.env scope.names []) [] X.env.qual none .none (some X.env)) (fun S s4 =>
   codeAny (model X.prog X.w) X.A (.compStart (.ListComp elt [⟨tg,iter,ifs,0⟩] scope pos) 0 (.ref it) acc { S with scope:=relabel scope X.env }) (RR acc S.locals) s4) E s3) E s:=by
 obtain⟨W,⟨m0,w0⟩,turn⟩:=h;show xP (newEnvK ?_);dsimp only;generalize aa:s.heap.push { cls:=.type "list",dict:=none,data:=.seq ([]:List Value).toArray }=a;have Y:(pushCells (a.push { cls:=.type "dict",data:=.dict #[] }) scope.names).Ns a.objs.size fun _=>none:=(Heap.Ns.new a (.type "dict")).keeps (pushCells_keeps _ _);have B:=cellsFrom_ok scope.names (a.push { cls:=.type "dict",data:=.dict #[] }) (a.objs.size+1) [] ⟨fun _ _ hm=>(nomatch hm),List.Pairwise.nil⟩ (by rw[YI];show yh _);rw[YI] at B;have ab:∀ b o,a.get? b=some o->(pushCells (a.push { cls:=.type "dict",data:=.dict #[] }) scope.names).get? b=some o:=fun b o e=>pushCells_keeps _ _ b o (yu _ e);generalize pushCells (a.push { cls:=.type "dict",data:=.dict #[] }) scope.names=h1 at Y B ab ⊢;have hC:a.objs.size=s.heap.objs.size+1:=by rw[<- aa,YI]
 have as:s.heap.objs.size≠a.objs.size:=by rw[hC];show yJ (Xx _)
 have U:s.heap.objs.size<=a.objs.size:=by rw[hC];show xC _
 have f:∀ b,b<s.heap.objs.size->b≠a.objs.size/\b≠s.heap.objs.size:=fun b hb=>⟨by rw[hC];show yJ (Nat.lt_succ_of_lt hb),yJ hb⟩;have ac:∀ b o,s.heap.get? b=some o->h1.get? b=some o:=fun b o e=>ab b o (aa ▸ yu _ e);have af:h1.get? s.heap.objs.size=some { cls:=.type "list",data:=.seq ([]:List Value).toArray }:=ab _ _ (aa ▸ yU _ rfl)
 have t:∀ b∈fp,b<s.heap.objs.size:=fun b hb=>by
  obtain⟨o,ho,_⟩:=T.obj 0 _ st b hb;show yI ho
 have Z:∀ s3:Shared,s3={ s with heap:=h1 } ->
   codeAny (model X.prog X.w) X.A (.compLoop (.ListComp elt [⟨tg,iter,ifs,0⟩] scope pos) 0 (.ref it) (.ref s.heap.objs.size) (compEnvC scope (cellsFrom (a.objs.size+1) scope.names (qO X.env scope.names [])) a.objs.size X.env)) (RR (.ref s.heap.objs.size) a.objs.size) s3:=by
  rintro s3 rfl;have I0:=I.comp (N:=N) (C:=a.objs.size) (D:=s.heap.objs.size) (h1:=h1) (tk:=s.toks) O hN ah hf t U (yh _) as Y ac af (fun v z=>by cases z) B
  have l:∀{H':Hp} {P:St} {s':Shared} {pl:List (Addr×Obj)},Inv (X.comp N scope a.objs.size s H fp) pl P H' s'->(∀ p∈pl,p.1=s.heap.objs.size)->(∀ b∈fp,H' b=none)->∀ b∈fp,qcv (X.comp N scope a.objs.size s H fp) pl H' b:=fun{H' P s' pl} J aw hn b hb =>
   ⟨hn b hb,(f b (t b hb)).1,fun z=>(by
     rcases yz.mp (I.stkSub b z) with e | e
     .show(hf b hb).2.1 e
     .show(hf b hb).2.2.1 e),.inl hb,J.ok.exf b hb |>.2,fun p G z=>by
    have e:=aw p (by simpa using G);rw[e] at z;show(f b (t b hb)).2 z.symm⟩
  show compLoop_own (fun k s'=>∃ i H' ys its n,Inv (X.comp N scope a.objs.size s H fp) [(s.heap.objs.size,{ cls:=.type "list",data:=.seq its.toArray n })] (qdn nl ixs σ) H' s'/\tn i s'.heap/\(∀ b∈fp,H' b=none)/\Vals ys its/\W i k ys H') ?_ m0
   ⟨0,H,[],[],0,I0,T.keep _ _ _ st fun b _ o e=>ac b o e,fun b hb=>(hf b hb).1,.nil,w0⟩
  rintro k s' ⟨i,H',ys,its,n,J1,al,ae,v1,w1⟩
  have one:∀ p∈[((s.heap.objs.size,{ cls:=.type "list",data:=.seq its.toArray n }):Addr×Obj)],p.1=s.heap.objs.size:=fun p G=>by
   have e:p=_:=yv.mp G;rw[e]
  rcases turn i k ys H' w1 with⟨am,hz,q⟩ | ⟨go,M,hM,step⟩
  .show thn (T.done (X.comp N scope a.objs.size s H fp) rfl rfl rfl hc i _ s' _ H' _ J1 (l J1 one ae) al am) fun r s4 ⟨hr,J4⟩=>?_;subst hr;show au _ _ s4 H' _ ys its n U (yh _) J4 v1 hz q
  .show thn (T.item (X.comp N scope a.objs.size s H fp) rfl rfl rfl hc i _ s' _ H' _ J1 (l J1 one ae) al go) fun r s4 ⟨u,hr,h4⟩=>?_;subst hr;show thn h4 fun _ s5 ⟨x,H5,J5,r5,y5,ad,ap⟩=>?_;have ao:=J5.pinned (l J5 one ap) (T.obj _ _ ad);show thn (hg _ _ _ _ _ s5 _ H5 x u _ ao r5 (gk _ _ _ _ (step x H5 y5))) fun _ s6 ⟨R,H6,J6,q6,l6,k6⟩=>?_;show thn (hi _ _ _ _ _ s6 R H6 _ J6 q6) fun ok s7 ⟨H7,J7,q7⟩=>?_;have again:∀{L:Shared} {H8:Hp} {ys':List V} {k':Nat},Inv (X.comp N scope a.objs.size s H fp) ([((s.heap.objs.size,{ cls:=.type "list",data:=.seq its.toArray n }):Addr×Obj)]++qb2 fp s5.heap) R H8 L ->
     (∀ b o,b≠s.heap.objs.size->L.heap.get? b=some o->L.heap.get? b=some o)->tn (i+1) L.heap/\∀ b∈fp,H8 b=none:=fun{L H8 ys' k'} J8 _=>by
    show⟨T.keep _ _ _ ad fun b hb o e=>(J8.pin (b,o) (yR _ (yR _ (zU hb e)))).1,fun b hb=>?_⟩;obtain⟨o,e,d⟩:=T.obj _ _ ad b hb;show(J8.pin (b,o) (yR _ (yR _ (zU hb e)))).2.1
   have wk:∀(j:Nat) v,(qdn nl ixs σ)[j]?=some (some v)->R[j]?=some (some v):=fun j v e=>by
    obtain⟨hj,_⟩:=qcV e;rw[k6 j hj];show e
   cases ok with
   | false =>
    rw[yE Yo] at q7 ⊢;obtain⟨m',hm,w7⟩:=hM _ _ q7;obtain⟨ay,aq⟩:=again (ys':=ys) (k':=0) J7 (fun _ _ _ e=>e);show⟨m',hm,i+1,H7,ys,its,n,J7.unpinned.weak l6.symm wk,ay,aq,v1,w7⟩
   | true =>
    rw[yG rfl] at q7 ⊢;show thn (he _ _ _ _ _ s7 R H7 _ J7 q7) fun y L ⟨v,H8,J8,r8,ba,mq⟩=>?_;obtain⟨m',hm,w8⟩:=hM _ _ mq;obtain⟨az,ar⟩:=again (ys':=ys) (k':=0) J8 (fun _ _ _ e=>e);have J9:=J8.unpinned;obtain⟨pD,nD,ak,ax,_⟩:=J9.pin (s.heap.objs.size,{ cls:=.type "list",data:=.seq its.toArray n }) (yR _ (yv.mpr rfl));show wpAny_list_append_plain (hsz:=by rw[yA,<- v1.length];lk) ⟨n,pD⟩ fun h9 F aj=>?_;obtain⟨n9,F⟩:=F;have e9:(its.toArray.push y)=(its++[y]).toArray:=by simp
    rw[e9] at F
    have Ja:Inv (X.comp N scope a.objs.size s H fp) [] (qdn nl ixs σ) H8 { L with heap:=h9,toks:=L.toks }:=
     ((J9.pins_of (pins':=[]) fun p G=>absurd G (by simp)).turned (it:=s.heap.objs.size) (h':=h9) (t':=L.toks) (fun b o hb e=>(aj.2 b hb).trans e) nD ak (.inr (yh _))
      (fun x c e z=>by
       rcases qba e with w | e
       .have:=(B.empty _ _ w).2;rw[z,hC] at this;show absurd (yi (xC _) this) (Nat.not_succ_le_self _)
       have:=zE e;rcases this with⟨av,hcc⟩ | hcc
       .obtain⟨c',ag⟩:=I.ok.has x (by
         rcases O.free _ av rfl with q | q
         .show .inl q
         .show .inr q)
        rw[ag] at hcc;have ai:c=c':=hcc;obtain⟨_,q⟩:=I.cell x c' ag;rw[<- ai,z] at q;show absurd q.lt (Yu _)
       .cases hcc) (fun p G=>absurd G (by simp))).weak l6.symm wk
    show⟨m',hm,i+1,H8,ys++[v],its++[y],n9,Ja.pins_of fun p G=>?_,?_,ar,v1.append (.cons r8 .nil),w8⟩
    .have e:p=_:=yv.mp G;subst e;show⟨F,nD,ak,ax,fun v z=>by cases z⟩
    .show T.keep _ _ _ az fun b hb o e=>(aj.2 b (f b (t b hb)).2).trans e
 show codeAny_compStart_list (Z _ rfl) (T.self _ 0 _ _ _ (T.keep _ _ _ st fun b _ o e=>ac b o e) (Z _ rfl))
end
section
variable{X:Cx}{tg elt iter:Expr}{ifs:List Expr}{scope:Scope}{pos:Pos}{N:LS}{nl:Nat}{ixs:LN}{wi:TI}{g:TG}{tc:TT}{te:TE}
theorem jG{XN:LS}(N:LS)(nl:Nat)(ixs:LN)(F:X.env.scope=sc)(u:X.N=XN)(hc:X.calm=true)(M:qd8 sc scope=true)(U:N.length=nl+ixs.length)(d:qfC nl ixs N XN scope.names=true)
  (hi:PI X tg iter wi) (Z:∀ C r i ex,PG (X.comp N scope C r i ex) tg g) (P:qdy nl g) (ht:∀ C r i ex,qfa (X.comp N scope C r i ex) ifs tc) (Y:∀ C r i ex,PE (X.comp N scope C r i ex) elt te)
  (hs:∀ x,foldedSetIterable iter X.env x=pure x:=by intro _;rfl):PE X (.ListComp elt [⟨tg,iter,ifs,0⟩] scope pos) (qeI wi g tc te nl ixs):=by
 intro pins s σ H Q I h;subst F u;have O:=qcU M;have l:=qdx d;rw[eval_ListComp]
 have y:=qaw (scope:=scope) (env:=X.env) fun n E=>I.ok.has n (by
  rcases O.free _ E rfl with z | z
  .show .inl z
  .show .inr z)
 show wpAny_comprehension_free (use:=none) rfl hs y O.kind O.loc (thn (hi pins s σ H _ I h) fun v s1 h1=>thn h1 fun aa s2 R=>?_);obtain⟨it,fp,tn,J,H2,e,f,T,K,L,W⟩:=R;subst e;show qbv (Q:=Q) (RR:=fun acc C=>compPost (model X.prog X.w) X.A X.xe none (EP X pins σ Q) acc C) f hc O U l T K L Z P ht Y W ?_;intro D C s' H' ab ys its n j S t hv hz q;obtain⟨m,E,_⟩:=id t.loc;have B:=f.compBack L j S t hv hz;obtain⟨_,nD,G,_,_⟩:=t.pin (D,{ cls:=.type "list",data:=.seq its.toArray n }) (yR _ (yv.mpr rfl));show⟨m,E,fun h' sb=>⟨.ref D,_,?_,rfl,q D nD⟩⟩;show B.turned (it:=C) (h':=h') (t':=s'.toks) (fun b o hb e=>(sb.2 b hb).trans e) ((qf (H:=H') (a:=D) (b:=C) (o:=.lst ys) (Yd G)).trans t.free) (Yg (yj f.lt j)) (.inr (yi f.sz j)) (fun x c e z=>?_) (fun p hp z=>?_)
 .obtain⟨_,q⟩:=f.cell x c e;show absurd (yj q.lt (by rw[z];show j)) (Yu _)
 .show absurd (yj (yI (f.pin p hp).1) (by rw[z];show j)) (Yu _)
theorem zN{i:Nat}{y:Str}{r f:Pos}{XN:LS}(N:LS)(nl:Nat)(ixs:LN)(W:X.env.scope=sc)(u:X.N=XN)(hc:X.calm=true)(O':qd8 sc scope=true)(hN:N.length=nl+ixs.length)(l:qfC nl ixs N XN scope.names=true)
  (M:X.N.Nodup) (R:X.N[i]?=some y) (hy:X.env.scope.names.lookup y=some .local)
  (hi:PI X tg iter wi) (hg:∀ C F t ex,PG (X.comp N scope C F t ex) tg g) (gk:qdy nl g) (ht:∀ C F t ex,qfa (X.comp N scope C F t ex) ifs tc) (he:∀ C F t ex,PE (X.comp N scope C F t ex) elt te)
  (Y:swapsWith (.ListComp elt [⟨tg,iter,ifs,0⟩] scope pos) (some (.Name y r)) f.line X.env=pure true:=by rfl)
  (hs:∀ x,foldedSetIterable iter X.env x=pure x:=by intro _;rfl):PS X (.Assign [.Name y r] (.ListComp elt [⟨tg,iter,ifs,0⟩] scope pos) f) (qeV (qeI wi g tc te nl ixs) (qbk i)):=by
 intro pins s σ H K I h;subst W u;have O:=qcU O';have E:=qdx l
 have P:=qaw (scope:=scope) (env:=X.env) fun n S=>I.ok.has n (by
  rcases O.free _ S rfl with z | z
  .show .inl z
  .show .inr z)
 rw[exec_Assign_Name_used _ _ _ _ Y];show yr (XD (yr ?_));show wpAny _ X.A (do let _ <- comprehension (.ListComp elt [⟨tg,iter,ifs,0⟩] scope pos) scope X.env _ (newList []) false (eval iter X.env) (some (assign (.Name y r) X.env))) _ _ s;show yr (YE (wpAny_comprehension_free (use:=some (assign (.Name y r) X.env)) (Q:=fun _ s'=>SP X pins K .next s') rfl hs P O.kind O.loc
  (thn (hi pins s σ H _ I h) fun v s1 h1=>thn h1 fun ac s2 h2=>?_)) (fun _ s' hq=>yw (yw hq)) fun _ _ e=>e)
 obtain⟨it,fp,tn,J,H2,e,d,T,ab,f2,hW⟩:=h2;subst e;show qbv (Q:=fun v H'=>qbk i v σ H' K.nx) (RR:=fun acc C=>compPost (model X.prog X.w) X.A X.xe (some (assign (.Name y r) X.env)) (fun _ s'=>SP X pins K .next s') acc C) d hc O hN E T ab f2 hg gk ht he hW ?_;intro D C s' H' ad ys its n j hD G hv hz q;obtain⟨m,S,_⟩:=id G.loc;have B:=d.compBack f2 j hD G hv hz;obtain⟨_,nD,Z,_,_⟩:=G.pin (D,{ cls:=.type "list",data:=.seq its.toArray n }) (yR _ (yv.mpr rfl));show wpAny _ X.A (assign (.Name y r) X.env (.ref D)) _ _ _;show wpAny_assign_Name (qb0 (i:=i) (x:=y) (v:=.ref D) B M R (.inl hy) rfl (fun aa B' U=>?_) (.inr hy));obtain⟨a,sa,ha⟩:=U
 have L:C≠a:=by
  rintro rfl;rcases ha with z | z
  .show absurd (show X.env.locals<C from yj d.lt j) (by rw[z];show Yu _)
  .obtain⟨_,q⟩:=d.cell y C z;show absurd (yj q.lt j) (Yu _)
 show⟨m,S.sameBut sa L,fun h' sb=>⟨_,_,?_,q D nD⟩⟩;show B'.turned (it:=C) (h':=h') (t':=aa.toks) (fun b o hb e=>(sb.2 b hb).trans e) ((qf (H:=H') (a:=D) (b:=C) (o:=.lst ys) (Yd Z)).trans G.free) (Yg (yj d.lt j)) (.inr (yi d.sz j)) (fun x c e z=>?_) (fun p hp z=>?_)
 .obtain⟨_,q⟩:=d.cell x c e;show absurd (yj q.lt (by rw[z];show j)) (Yu _)
 .show absurd (yj (yI (d.pin p hp).1) (by rw[z];show j)) (Yu _)
end
noncomputable def Its(x:Str):It:=⟨fun i _=>i<x.cps.size,fun i H v H'=>H'=H/\∃ c,x.cps[i]?=some c/\v=.str ⟨#[c]⟩,fun i _=>i=x.cps.size⟩
theorem qcW{K:yg}{t:Tok}(W:∀ A:Around,A.handled=none->Walks P w A it [it] [it] x.cps.size (SignAt x) fun i h=>h.IsStrIter it T x t i)
  (J:∀(A:Around) (i:Nat) (s:Shared) (Q:Value->Shared->Prop) (E:Value->Shared->Prop),s.heap.IsStrIter it T x t i->Q (.ref it) s->wpAny (model P w) A (pyIter (.ref it)) Q E s)
  (B:∀ v,letOwnedTupleGo tg (.ref it) v=pure ()):Turn P w K tg (Its x) [it] it (fun i h=>h.IsStrIter it T x t i) where
 mem:=by simp
 obj:=fun i h st b hb=>by
  have e:b=it:=by simpa using hb
  subst e;obtain⟨o,e,c,d⟩:=st;show⟨o,e,fun v z=>by rw[d] at z;cases z⟩
 keep:=fun i h h' st k=>by
  obtain⟨o,e,r⟩:=st;show⟨o,k it (by simp) o e,r⟩
 item:=by
  intro X p hw n hc i pins s σ H E I a st y;subst p hw n;obtain⟨f,g,G,j,l,m⟩:=a it (by simp);show(W X.A (I.ok.hd hc)).item i s _ _ y st fun v h' tk hv D C=>?_;obtain⟨c,u,q,rfl⟩:=hv;have F:Inv X pins σ H { s with heap:=h',toks:=tk }:=I.turned (fun b o hb e=>C b o (by simpa using hb) e) f g j l m;show⟨_,rfl,xl (B _) ⟨.str ⟨#[c]⟩,H,F,⟨u,rfl⟩,⟨rfl,c,q,rfl⟩,D,fun b hb=>(a b hb).1⟩⟩
 done:=by
  intro X p hw n hc i pins s σ H E I a st y;subst p hw n;obtain⟨f,g,G,j,l,m⟩:=a it (by simp);have e:i=x.cps.size:=y;subst e;show(W X.A (I.ok.hd hc)).done s _ _ st fun h' tk C=>⟨rfl,I.turned (fun b o hb e=>C b o (by simpa using hb) e) f g j l m⟩
 self:=J
section
variable{X:Cx}{tg:Expr}
end
section
variable{K:yg}{a:Addr}{xs:List V}{g:TG}{tc:TT}{te:TE}{σ':St}{H1:Hp}{Q:V->Hp->Prop}
def qdg(J:It)(g:TG)(tc:TT)(te:TE)(σ':St)(H1:Hp)(Q:V->Hp->Prop):Prop:=
 ∃ W:Nat->Nat->List V->Hp->Prop,(∃ m,W 0 m [] H1)/\∀ i m ys H,W i m ys H ->
   (J.stop i H/\ys.length<=sizeLine/\∀ p,H p=none->Q (.ref p) (upd H p (.lst ys))) \/
   (J.go i H/\∃ M:List V->Hp->Prop,(∀ ys' H',M ys' H'->∃ d,d<m/\W (i+1) d ys' H')/\∀ x H',J.yld i H x H'->g x σ' H' fun a e=>tc a e fun b c =>
    if b=true then te a c fun v f=>ys.length<sizeLine/\M (ys++[v]) f else M ys c)
theorem qK(c:Nat->List V->Hp->Prop)(n:c 0 [] H1)(hl:∀ i ys H,i<=xs.length->c i ys H->SqL K H a xs)
  (s:∀ i x ys H,xs[i]?=some x->c i ys H->g x σ' H fun f j=>tc f j fun b h=>if b=true then te f h fun v l=>ys.length<sizeLine/\c (i+1) (ys++[v]) l else c (i+1) ys h)
  (o:∀ ys H,c xs.length ys H->ys.length<=sizeLine/\∀ p,H p=none->Q (.ref p) (upd H p (.lst ys))):qdg (Itl K a) g tc te σ' H1 Q:=by
 show⟨fun i m ys H=>m=xs.length-i/\i<=xs.length/\c i ys H,⟨xs.length,by simp,YW _,n⟩,?_⟩;rintro i m ys H ⟨rfl,r,p⟩;have q:=hl i ys H r p;by_cases d:i<xs.length
 .show .inr ⟨⟨xs,xs[i],q,by simp[d]⟩,c (i+1),fun ys' H' t=>⟨xs.length-(i+1),by lk,rfl,d,t⟩,fun x H' y=>?_⟩;obtain⟨e,y⟩:=y;subst e;show s i x ys _ (y xs q) p
 .have e:i=xs.length:=by lk
  subst e;show .inl ⟨⟨xs,q,yh _⟩,o ys H p⟩
theorem qbw{lo:Int}(a:Nat->List V->Hp->Prop)(l:a 0 [] H1)
  (q:∀ i ys H,i<n->a i ys H->g (.int (lo+i)) σ' H fun d h=>tc d h fun b f=>if b=true then te d f fun v j=>ys.length<sizeLine/\a (i+1) (ys++[v]) j else a (i+1) ys f)
  (o:∀ ys H,a n ys H->ys.length<=sizeLine/\∀ p,H p=none->Q (.ref p) (upd H p (.lst ys))):qdg (Itr lo n) g tc te σ' H1 Q:=by
 show⟨fun i m ys H=>m=n-i/\i<=n/\a i ys H,⟨n,by simp,YW _,l⟩,?_⟩;rintro i m ys H ⟨rfl,s,p⟩;by_cases c:i<n
 .show .inr ⟨c,a (i+1),fun ys' H' r=>⟨n-(i+1),by lk,rfl,c,r⟩,fun x H' y=>?_⟩;obtain⟨e,y⟩:=y;subst e y;show q i ys _ c p
 .have e:i=n:=by lk
  subst e;show .inl ⟨yh _,o ys H p⟩
theorem comp_str(a:Nat->List V->Hp->Prop)(n:a 0 [] H1)
  (q:∀ i c ys H,x.cps[i]?=some c->a i ys H->g (.str ⟨#[c]⟩) σ' H fun f j=>tc f j fun b h=>if b=true then te f h fun v l=>ys.length<sizeLine/\a (i+1) (ys++[v]) l else a (i+1) ys h)
  (o:∀ ys H,a x.cps.size ys H->ys.length<=sizeLine/\∀ p,H p=none->Q (.ref p) (upd H p (.lst ys))):qdg (Its x) g tc te σ' H1 Q:=by
 show⟨fun i m ys H=>m=x.cps.size-i/\i<=x.cps.size/\a i ys H,⟨x.cps.size,by simp,YW _,n⟩,?_⟩;rintro i m ys H ⟨rfl,s,p⟩;by_cases d:i<x.cps.size
 .show .inr ⟨d,a (i+1),fun ys' H' r=>⟨x.cps.size-(i+1),by lk,rfl,d,r⟩,fun v H' y=>?_⟩;obtain⟨e,c,hc,y⟩:=y;subst e y;show q i c ys _ hc p
 .have e:i=x.cps.size:=by lk
  subst e;show .inl ⟨rfl,o ys H p⟩
end
noncomputable def qcf:V->Option Value
 | .ty n=>some (.type n)
 | .ref a=>some (.ref a)
 | _=>none
theorem qbx{c:Value}(h:qcf y=some c)(r:RelV y u):u=c:=by
 cases y with
 | ty n=>cases h;show r
 | ref a=>cases h;show r
 | _=>cases h
section
variable{X:Cx}{pins:List (Addr×Obj)}{σ:St}{H:Hp}{s:Shared}
theorem TyOf.kit{x:V}(I:Inv X pins σ H s)(b:RelV x u)(ty:TyOf X.K H x t):∃ P:Heap->Prop,PySem.W.KitX X.K u t P/\P s.heap/\u≠.builtin "__main__.__loader__#opaque":=by
 cases ty with
 | non=>cases (show u=Value.none from b);show⟨_,PySem.W.kitx_none,YO,(fun z=>nomatch z)⟩
 | bl y=>cases (show u=Value.bool y from b);show⟨_,PySem.W.kitx_bool,YO,(fun z=>nomatch z)⟩
 | int i=>obtain⟨t,q⟩:=(show ∃ t,u=Value.int i t from b);cases q;show⟨_,PySem.W.kitx_int,YO,(fun z=>nomatch z)⟩
 | str y=>obtain⟨t,q⟩:=(show ∃ t,u=Value.str y t from b);cases q;show⟨_,PySem.W.kitx_str,YO,(fun z=>nomatch z)⟩
 | flt y=>obtain⟨t,q⟩:=(show ∃ t,u=Value.float y t from b);cases q;show⟨_,PySem.W.kitx_float,YO,(fun z=>nomatch z)⟩
 | @lst a xs ea =>
  cases (show u=Value.ref a from b);obtain⟨_,_,n,_,h1⟩:=(show ObjOk X.prog X.w H s.heap a (.lst xs) from I.hok a _ ea);show⟨_,PySem.W.kitx_list,⟨_,h1,rfl⟩,(fun z=>nomatch z)⟩
 | @frz a ob xs ea =>
  cases (show u=Value.ref a from b);obtain⟨_,_,_,n,_,h1⟩:=(show ObjOk X.prog X.w H s.heap a (.frz ob (.lst xs)) from I.hok a _ ea);show⟨_,PySem.W.kitx_list,⟨_,h1,rfl⟩,(fun z=>nomatch z)⟩
 | @tup a xs ea =>
  cases (show u=Value.ref a from b);obtain⟨_,_,_,p⟩:=(show ObjOk X.prog X.w H s.heap a (.tup xs) from I.hok a _ ea);obtain⟨o,h1,c,_⟩:=p;show⟨_,PySem.W.kitx_tuple,⟨o,h1,c⟩,(fun z=>nomatch z)⟩
 | @dK a kvs ea =>
  cases (show u=Value.ref a from b);obtain⟨_,_,vs,_,p⟩:=(show ObjOk X.prog X.w H s.heap a (.dK kvs) from I.hok a _ ea);obtain⟨o,es,ep,h1,c,_⟩:=p;show⟨_,PySem.W.kitx_dict,⟨o,h1,c.1⟩,(fun z=>nomatch z)⟩
 | @dT a kvs ea =>
  cases (show u=Value.ref a from b);obtain⟨_,_,xs,_,o,es,ep,h1,c,_⟩:=(show ObjOk X.prog X.w H s.heap a (.dT kvs) from I.hok a _ ea);show⟨_,PySem.W.kitx_dict,⟨o,h1,c.1⟩,(fun z=>nomatch z)⟩
 | @ins a C dx fs ea cl ha hn htk hm =>
  cases (show u=Value.ref a from b);obtain⟨d,O,_⟩:=qaN I.hok ea;obtain⟨od,J,_⟩:=O.look;show⟨_,PySem.W.kitx_own (cl.get _) cl.hd ha hn htk hm,J,(fun z=>nomatch z)⟩
end
section
variable{X:Cx}
theorem qbb:∀{ys:List V} {a us:List Value},ys.map qcf=a.map some->Vals ys us->us=a
 | [],[],_,_,.nil=>rfl
 | [],_::_,_,h,_=>by cases h
 | y::ys,[],_,h,_=>by cases h
 | y::ys,c::a,_,h,.cons r t=>by
  rw[YF,YF] at h
  injection h with h1 h2
  rw[qbx h1 r,qbb h2 t]
theorem qbH:∀{bs:List Bool} {us:List Value},Vals (bs.map V.bl) us->us=bs.map Value.bool
 | [],_,.nil=>rfl
 | b::bs,_,.cons r t=>by
  have e:=qbH t;rw[e];cases r;rfl
def qfX(K:yg):List V->Hp->VK->Prop:=fun xs H Q=>∃(p:Addr) (bs:List Bool),xs=[.ref p]/\SqL K H p (bs.map V.bl)/\Q (.bl (bs.all id)) H
theorem call_all(hc:X.calm=true):zL X (.builtin "all") (qfX X.K):=by
 intro pins s σ H xs us Q I r h;obtain⟨p,bs,rfl,n,q⟩:=h;obtain⟨u,rfl,w⟩:=qbl r;cases w;obtain⟨its,x,pl,hz⟩:=I.list n;have e:=qbH x;subst e;have j:X.A.in1.handled=none:=I.ok.hd hc;show call_all_walk (Xs pl.isList ?_)
 have f:p≠s.heap.objs.size:=by
  obtain⟨o,m,_⟩:=pl.isList;show yJ (yI m)
 show⟨s.heap.objs.size,_,_,_,_,_,fun i=>(bs[i]?).getD false,rfl,Walks.list j s.heap.objs.size p f (bs.map Value.bool).toArray,⟨⟨_,yU _ rfl,rfl,rfl⟩,pl.isList.at fun o e=>yu _ e⟩,fun i v s Q E hv t=>?_,fun h' tk l=>?_⟩
 .have a:(bs.map Value.bool)[i]?=some v:=by simpa using hv
  rw[yd] at a
  cases e:bs[i]? with
  | none=>rw[e] at a;cases a
  | some b =>
   rw[e] at a;cases a;have c:Q ((bs[i]?).getD false) s:=t;rw[e] at c;show yw c
 .have e:((List.range (bs.map Value.bool).toArray.size).all fun i=>(bs[i]?).getD false)=bs.all id:=by
   rw[yA,ya]
   have key:∀ bs:List Bool,((List.range bs.length).all fun i=>(bs[i]?).getD false)=bs.all id:=by
    intro bs
    induction bs with
    | nil=>rfl
    | cons b r ih =>
     rw[yy,List.range_succ_eq_map,kG,kS,kG,<- ih];rfl
   show key bs
  rw[e];show⟨.bl _,H,?_,rfl,q⟩;have g:Inv X pins σ H { s with heap:=s.heap.push { cls:=.type "list_iterator",data:=.fields #[.ref p,.int 0 0] } }:=I.kept (t':=s.toks) fun b o e=>yu _ e;have d:=I.fpOk (b:=s.heap.objs.size) (yh _) (I.hok.fresh (yh _));show g.turned (it:=s.heap.objs.size) (h':=h') (t':=tk) (fun b o hb e=>l b o (by simpa using hb) e) d.1 d.2.1 d.2.2.2.1 d.2.2.2.2.1 d.2.2.2.2.2
theorem op_le_str:OpR X (compareOp .LtE) (fun x y H Q=>∃ i j,x=.str i/\y=.str j/\Q (.bl (!decide (j.cps.toList<i.cps.toList))) H):=by
 intro pins s σ H x y v u Q I a b h;obtain⟨i,j,rfl,rfl,q⟩:=h;obtain⟨t,rfl⟩:=a;obtain⟨t',rfl⟩:=b;show PySem.P.le_str (qcP I q (by rfl))
def qfE:R2:=fun x y H Q=>match x,y with
 | .int i,.int j=>Q (.bl (decide (i<=j))) H
 | .str i,.str j=>Q (.bl (!decide (j.cps.toList<i.cps.toList))) H
 | _,_=>False
theorem qfv:OpR X (compareOp .LtE) qfE:=by
 intro pins s σ H x y v u Q I a b h
 cases x with
 | int i=>cases y with
  | int j=>show op_le pins s σ H _ _ v u Q I a b ⟨i,j,rfl,rfl,h⟩
  | _=>show False.elim h
 | str i=>cases y with
  | str j=>show op_le_str pins s σ H _ _ v u Q I a b ⟨i,j,rfl,rfl,h⟩
  | _=>show False.elim h
 | _=>show False.elim h
theorem op_is_bl:OpR X (compareOp .Is) (fun x y H Q=>∃ i j,x=.bl i/\y=.bl j/\Q (.bl (i==j)) H):=by
 intro pins s σ H x y v u Q I a b h;obtain⟨i,j,rfl,rfl,q⟩:=h;cases a;cases b;show wpAny_is_plain (by cases i<;>cases j<;>rfl) (qcP I q (by cases i<;>cases j<;>rfl))
def qfF:R2:=fun x y H Q=>match x,y with
 | .bl i,.bl j=>Q (.bl (i==j)) H
 | x,.non=>Q (.bl (decide (x=.non))) H
 | _,_=>False
theorem qfG:OpR X (compareOp .Is) qfF:=by
 intro pins s σ H x y v u Q I a b h
 cases y with
 | non=>show op_isN pins s σ H x _ v u Q I a b ⟨rfl,by cases x<;>show h⟩
 | bl j=>cases x with
  | bl i=>show op_is_bl pins s σ H _ _ v u Q I a b ⟨i,j,rfl,rfl,h⟩
  | _=>show False.elim h
 | _=>cases x<;>show False.elim h
theorem op_rep_str:OpR X (binaryOp .Mult) (fun x y H Q=>∃ z k,x=.str z/\y=.int k/\MulOk z k/\Q (.str (Txt.mul z k)) H):=by
 intro pins s σ H x y v u Q I b c h;obtain⟨z,k,rfl,rfl,a,q⟩:=h;obtain⟨t,rfl⟩:=b;obtain⟨t',rfl⟩:=c;show SB.mul a fun t' k'=>⟨.str _,H,I.tok _,⟨_,rfl⟩,q⟩
def qfb:R2:=fun x y H Q=>match x,y with
 | .int i,.int j=>CMul i j/\Q (.int (i*j)) H
 | .str z,.int k=>MulOk z k/\Q (.str (Txt.mul z k)) H
 | .ref a,.int k=>rRep (.ref a) (.int k) H Q
 | _,_=>False
theorem qcz:OpR X (binaryOp .Mult) qfb:=by
 intro pins s σ H x y v u Q I b c h
 cases y with
 | int j=>cases x with
  | int i=>show op_mul pins s σ H _ _ v u Q I b c ⟨i,j,rfl,rfl,h.1,h.2⟩
  | str i=>show op_rep_str pins s σ H _ _ v u Q I b c ⟨i,j,rfl,rfl,h.1,h.2⟩
  | ref a=>show qeh pins s σ H _ _ v u Q I b c h
  | _=>show False.elim h
 | _=>cases x<;>show False.elim h
def qdh(K:yg):R2:=fun x y H Q=>match x,y with
 | .int i,.int j=>Q (.int (i+j)) H
 | .str i,.str j=>i.length+j.length<=sizeLine/\Q (.str (i++j)) H
 | .ref a,.ref b=>rCat (.ref a) (.ref b) H Q\/rCatT K (.ref a) (.ref b) H Q
 | _,_=>False
theorem u_add:OpR X (binaryOp .Add) (qdh X.K):=by
 intro pins s σ H x y v u Q I c d h
 cases x with
 | int i=>cases y with
  | int j=>show op_add pins s σ H _ _ v u Q I c d ⟨i,j,rfl,rfl,h⟩
  | _=>show False.elim h
 | str i=>cases y with
  | str j=>show op_add_str pins s σ H _ _ v u Q I c d ⟨i,j,rfl,rfl,h.1,h.2⟩
  | _=>show False.elim h
 | ref a=>cases y with
  | ref b=>show h.elim (fun h=>op_cat pins s σ H _ _ v u Q I c d h) fun h=>op_catT pins s σ H _ _ v u Q I c d h
  | _=>show False.elim h
 | _=>show False.elim h
def qdi(K:yg):List V->Hp->VK->Prop:=fun xs H Q=>match xs with
 | [.str z]=>z.length<=sizeLine/\Q (.int z.length) H
 | [.ref p]=>(∃ ys,(SqL K H p ys\/SqT K H p ys)/\Q (.int ys.length) H)\/∃ kvs,H p=some (.dK kvs)/\Q (.int kvs.length) H
 | _=>False
theorem call_lenU:zL X (.builtin "len") (qdi X.K):=by
 intro pins s σ H xs us Q I r h
 match xs,h with
 | [.str z],h=>show call_len_str pins s σ H _ us Q I r ⟨z,rfl,h.1,h.2⟩
 | [.ref p],.inl ⟨ys,h,q⟩=>show call_len_seq pins s σ H _ us Q I r ⟨p,ys,rfl,h,q⟩
 | [.ref p],.inr ⟨kvs,h,q⟩=>show call_lenD pins s σ H _ us Q I r ⟨p,kvs,rfl,h,q⟩
theorem sl_str:SlR X (fun x lo b H Q=>∃ z,x=.str z/\z.length<=sizeLine/\Q (.str (Txt.slice z lo b)) H):=by
 intro pins s σ H x v f g lo b e Q I d a pl c h;obtain⟨z,rfl,hz,q⟩:=h;obtain⟨t,rfl⟩:=d;show⟨"str",_,F.slot_str_getitem.lookup,typeIs_str _ _ _,?_⟩
 cases pl with
 | none =>
  cases c with
  | none=>show xZ (l:=none) (u:=none) (st:=none) a rfl (kg ⟨yi (kT z _ _) hz,fun t' k=>⟨.str _,H,I.tok _,⟨_,rfl⟩,q⟩⟩)
  | int j uj=>show xZ (l:=none) (u:=some (j,uj)) (st:=none) a rfl (kg ⟨yi (kT z _ _) hz,fun t' k=>⟨.str _,H,I.tok _,⟨_,rfl⟩,q⟩⟩)
 | int i ui =>
  cases c with
  | none=>show xZ (l:=some (i,ui)) (u:=none) (st:=none) a rfl (kg ⟨yi (kT z _ _) hz,fun t' k=>⟨.str _,H,I.tok _,⟨_,rfl⟩,q⟩⟩)
  | int j uj=>show xZ (l:=some (i,ui)) (u:=some (j,uj)) (st:=none) a rfl (kg ⟨yi (kT z _ _) hz,fun t' k=>⟨.str _,H,I.tok _,⟨_,rfl⟩,q⟩⟩)
def qfH(K:yg):V->Option Int->Option Int->Hp->VK->Prop:=fun x lo b H Q=>match x with
 | .str z=>z.length<=sizeLine/\Q (.str (Txt.slice z lo b)) H
 | .ref a=>rSlL K (.ref a) lo b H Q\/rSlT K (.ref a) lo b H Q
 | _=>False
theorem u_sl:SlR X (qfH X.K):=by
 intro pins s σ H x v g i lo b f Q I e c pl d h
 cases x with
 | str z=>show sl_str pins s σ H _ v g i lo b f Q I e c pl d ⟨z,rfl,h.1,h.2⟩
 | ref a=>show h.elim (fun h=>sl_list pins s σ H _ v g i lo b f Q I e c pl d h) fun h=>sl_tup pins s σ H _ v g i lo b f Q I e c pl d h
 | _=>show False.elim h
theorem qcA:∀{ys:LS} {us:List Value},Vals (ys.map V.str) us->StrsAre us ys
 | [],_,.nil=>.nil
 | y::ys,_,.cons r t=>by
  obtain⟨tk,rfl⟩:=r;show .cons y tk (qcA t)
def qfc(K:yg):V->List V->Hp->VK->Prop:=fun x vs H Q=>∃(z:Str) (p:Addr) (ys:LS),x=.str z/\vs=[.ref p]/\SqL K H p (ys.map V.str)/\(ys.map (·.length)).sum+ys.length*z.length<=16777216/\Q (.str (Txt.join z ys)) H
theorem mt_join:MtR X "str.join" (qfc X.K):=by
 intro pins s σ H x vs v us Q I d c h;obtain⟨z,p,ys,rfl,rfl,a,hz,q⟩:=h;obtain⟨t,rfl⟩:=d;obtain⟨u,rfl,b⟩:=c.one;cases b;obtain⟨its,r,pl,_⟩:=I.list a;show join_list pl.isList (by simpa using qcA r) hz fun t' k=>⟨.str _,H,I.tok _,⟨_,rfl⟩,q⟩
def qfI(K:yg)(te:TE):TI:=fun σ H R=>te σ H fun v b=>match v with
 | .str x=>R (Its x) b
 | .ref a=>((∃ xs,SqL K b a xs)/\R (Itl K a) b)\/((∃ xs,SqT K b a xs)/\R (Itt K a) b)
 | _=>False
theorem pi_any{e:Expr}(u:PE X e te)(g:∀ it v,letOwnedTupleGo tg it v=pure ():=by intro _ _;rfl):PI X tg e (qfI X.K te):=by
 intro pins s σ H R I h;show thn (u pins s σ H _ I h) fun v c ⟨y,f,d,r,j⟩=>?_
 cases y with
 | str x =>
  obtain⟨t,rfl⟩:=r
  have fp:∀ b∈[c.heap.objs.size],qcv X pins f b:=fun b hb=>by
   have e:b=c.heap.objs.size:=by simpa using hb
   subst e;show d.fpOk (yh _) (d.hok.fresh (yh _))
  cases n:x.cps.all (· < 128)
  .show wpAny_pyIter_wide n ⟨c.heap.objs.size,[c.heap.objs.size],_,_,f,rfl,d.kept (t':=c.toks) fun b o e=>yu _ e,
    qcW (T:="str_iterator") (fun A l=>Walks.strWide l _ x t) (fun A i s Q E st h=>wpAny_pyIter_striter_wide st h) (g _),⟨_,yU _ rfl,rfl,rfl⟩,fp,j⟩
  .show wpAny_pyIter_ascii n ⟨c.heap.objs.size,[c.heap.objs.size],_,_,f,rfl,d.kept (t':=c.toks) fun b o e=>yu _ e,
    qcW (T:="str_ascii_iterator") (fun A l=>Walks.strAscii l _ x t) (fun A i s Q E st h=>wpAny_pyIter_striter_ascii st h) (g _),⟨_,yU _ rfl,rfl,rfl⟩,fp,j⟩
 | ref a =>
  cases r
  have fp:∀ b∈[c.heap.objs.size],qcv X pins f b:=fun b hb=>by
   have e:b=c.heap.objs.size:=by simpa using hb
   subst e;show d.fpOk (yh _) (d.hok.fresh (yh _))
  rcases j with⟨⟨xs,m⟩,q⟩ | ⟨⟨xs,m⟩,q⟩
  .obtain⟨its,w,p,hz⟩:=d.list m;show Xs p.isList ⟨c.heap.objs.size,[c.heap.objs.size],_,_,f,rfl,d.kept (t':=c.toks) fun b o e=>yu _ e,qb1 a _,⟨_,yU _ rfl,rfl,rfl⟩,fp,q⟩
  .obtain⟨its,w,p,hz⟩:=d.tuple m;show wpAny_pyIter_tuple (show c.heap.IsTuple a its.toArray from p) ⟨c.heap.objs.size,[c.heap.objs.size],_,_,f,rfl,d.kept (t':=c.toks) fun b o e=>yu _ e,turn_tuple a _,⟨_,yU _ rfl,rfl,rfl⟩,fp,q⟩
 | _=>show False.elim j
end
section
variable{D:Ends}{σ:St}{H:Hp}{Q:VK}{QT:Bool->Hp->Prop}{QA:List V->Hp->Prop}{t u:TS}{te ta tb tc:TE}{c c':TT}{tr tas:TA}{r r':R2}{K:yg}
theorem vSeq(h:t { D with nx:=u D } σ H):qfs t u D σ H:=h
theorem vAsg{i:Nat}(h:te σ H fun x a=>D.nx (σ.set i (some x)) a):qeV te (qbk i) D σ H:=h
theorem vAsgS{b a:TE}{s:qe3}(h:te σ H fun x c=>b σ c fun o d=>a σ d fun i e=>s o i x e fun f=>D.nx σ f):qeV te (qfS b a s) D σ H:=h
theorem vIfS(h:c σ H fun b a=>if b=true then t D σ a else u D σ a):qfQ c t u D σ H:=h
theorem vRet(h:te σ H D.rt):qfP te D σ H:=h
theorem vRetN(h:D.rt .non H):qe2 D σ H:=h
theorem vDrop(h:te σ H fun _ a=>D.nx σ a):qe1 te D σ H:=h
theorem vNext(h:D.nx σ H):qe0 D σ H:=h
theorem vC(h:Q v H):tC v σ H Q:=h
theorem vVar{i:Nat}(e:σ[i]?=some (some v))(h:Q v H):qeY i σ H Q:=⟨v,e,h⟩
theorem vOp(h:ta σ H fun x a=>tb σ a fun y b=>r x y b Q):tOp r ta tb σ H Q:=h
theorem vUn{f:V->Hp->VK->Prop}(h:ta σ H fun x a=>f x a Q):tUn f ta σ H Q:=h
theorem vChain(h:ta σ H fun x b=>tb σ b fun y c=>r x y c fun z a=>∃ k,z=.bl k/\if k=true then tc σ a fun e d=>r' y e d Q else Q (.bl false) a):qdp r r' ta tb tc σ H Q:=h
theorem vNil(h:QA [] H):qe6 σ H QA:=h
theorem vCons(h:ta σ H fun x a=>tr σ a fun xs b=>QA (x::xs) b):qd7 ta tr σ H QA:=h
theorem vCB{f:List V->Hp->VK->Prop}(h:tas σ H fun vs a=>f vs a Q):tCB f tas σ H Q:=h
theorem vCall{E:XK}(h:tas σ H fun vs a=>sp (vs++[]) a Q E):qde sp [] E tas σ H Q:=h
theorem vLst(h:tas σ H fun xs a=>NewL xs a Q):qfW tas σ H Q:=h
theorem vTup(h:tas σ H fun xs a=>NewT xs a Q):qfV tas σ H Q:=h
theorem vTest(h:te σ H fun x H'=>∃ k,x=.bl k/\QT k H'):qeG te σ H QT:=h
theorem vB(h:te σ H fun x H'=>∃ k,x=.bl k/\QT k H'):tB te σ H QT:=h
theorem vNot(h:c σ H fun b a=>QT (!b) a):qfN c σ H QT:=h
theorem vAnd(h:c σ H fun b a=>if b=true then c' σ a QT else QT false a):qfM c c' σ H QT:=h
theorem vOr(h:c σ H fun b a=>if b=true then QT true a else c' σ a QT):tOr c c' σ H QT:=h
theorem vAndV(h:ta σ H fun x a=>∃ k,x=.bl k/\if k=true then tb σ a Q else Q (.bl false) a):qeZ ta tb σ H Q:=h
theorem vOrV(h:ta σ H fun x a=>∃ k,x=.bl k/\if k=true then Q (.bl true) a else tb σ a Q):qfO ta tb σ H Q:=h
theorem vNotV(h:ta σ H fun x a=>∃ k,x=.bl k/\Q (.bl (!k)) a):tNotV ta σ H Q:=h
theorem vIf(h:c σ H fun b a=>if b=true then ta σ a Q else tb σ a Q):tIf c ta tb σ H Q:=h
theorem vYes(h:QT true H):qfD σ H QT:=h
theorem vI0{g:Int->Int->V}(h:Q (g i j) H):rI0 g (.int i) (.int j) H Q:=⟨i,j,rfl,rfl,h⟩
theorem vI{C:Int->Int->Prop}{g:Int->Int->V}(hc:C i j)(h:Q (g i j) H):rI C g (.int i) (.int j) H Q:=⟨i,j,rfl,rfl,hc,h⟩
theorem vU{g:Int->V}(h:Q (g i) H):rU g (.int i) H Q:=⟨i,rfl,h⟩
theorem vEqI(h:Q (.bl (decide (i=j))) H):rEq (.int i) (.int j) H Q:=⟨rfl,by
 have e:decide (V.int i=V.int j)=decide (i=j):=by
  by_cases h:i=j
  .subst h;simp
  .rw [yl h,yl (fun e=>h (V.int.inj e))]
 rw[e];show h⟩
theorem vEqB{i j:Bool}(h:Q (.bl (i==j)) H):rEq (.bl i) (.bl j) H Q:=⟨rfl,by rw[dec_bl];show h⟩
theorem zX(b:H p=some (.lst xs))(a:atI xs i=some v)(h:Q v H):rIx K (.ref p) (.int i) H Q:=.inl ⟨p,xs,i,v,rfl,rfl,SqL.of b,a,h⟩
theorem vIxLs(b:SqL K H p xs)(a:atI xs i=some v)(h:Q v H):rIx K (.ref p) (.int i) H Q:=.inl ⟨p,xs,i,v,rfl,rfl,b,a,h⟩
theorem qaX(b:H p=some (.tup xs))(a:atI xs i=some v)(h:Q v H):rIx K (.ref p) (.int i) H Q:=.inr (.inl ⟨p,xs,i,v,rfl,rfl,SqT.of b,a,h⟩)
theorem qfJ{ch:Nat}(hz:z.length<=sizeLine)(a:atI z.cps.toList i=some ch)(h:Q (.str ⟨#[ch]⟩) H):rIx K (.str z) (.int i) H Q:=.inr (.inr ⟨z,i,ch,rfl,rfl,hz,a,h⟩)
theorem qea{k:Int}{j:Nat}{a:Hp->Prop}(c:H p=some (.lst xs))(b:ixN xs.length k=some j)(h:a (upd H p (.lst (xs.set j v)))):rSetL (.ref p) (.int k) v H a:=⟨p,xs,k,j,rfl,rfl,c,b,h⟩
theorem vEx{k:Bool}{P:Bool->Prop}(h:P k):∃ k',V.bl k=.bl k'/\P k':=⟨k,rfl,h⟩
theorem vLeI(h:Q (.bl (decide (i<=j))) H):qfE (.int i) (.int j) H Q:=h
theorem vLeS{i j:Str}(h:Q (.bl (!decide (j.cps.toList<i.cps.toList))) H):qfE (.str i) (.str j) H Q:=h
theorem vIsB{i j:Bool}(h:Q (.bl (i==j)) H):qfF (.bl i) (.bl j) H Q:=h
theorem vAddI(h:Q (.int (i+j)) H):qdh K (.int i) (.int j) H Q:=h
theorem qeJ{i j:Str}(hz:i.length+j.length<=sizeLine)(h:Q (.str (i++j)) H):qdh K (.str i) (.str j) H Q:=⟨hz,h⟩
theorem qcB(hc:CMul i j)(h:Q (.int (i*j)) H):qfb (.int i) (.int j) H Q:=⟨hc,h⟩
theorem qfd(hz:z.length<=sizeLine)(h:Q (.int z.length) H):qdi K [.str z] H Q:=⟨hz,h⟩
theorem qan(a:H p=some (.lst ys))(h:Q (.int ys.length) H):qdi K [.ref p] H Q:=.inl ⟨ys,.inl (SqL.of a),h⟩
theorem vLenLs(a:SqL K H p ys)(h:Q (.int ys.length) H):qdi K [.ref p] H Q:=.inl ⟨ys,.inl a,h⟩
theorem qfe(a:H p=some (.tup ys))(h:Q (.int ys.length) H):qdi K [.ref p] H Q:=.inl ⟨ys,.inr (SqT.of a),h⟩
theorem qfK{lo a:Option Int}(hz:z.length<=sizeLine)(h:Q (.str (Txt.slice z lo a)) H):qfH K (.str z) lo a H Q:=⟨hz,h⟩
theorem vSl{f:V->Option Int->Option Int->Hp->VK->Prop}{tl a:TO}(h:te σ H fun x b=>tl σ b fun l c=>a σ c fun u d=>f x l u d Q):tSl f te tl a σ H Q:=h
theorem vNoPart(h:QO none H):qds σ H QO:=h
theorem vPart(h:te σ H fun x a=>∃ i,x=.int i/\QO (some i) a):qe8 te σ H QO:=h
theorem vExI{P:Int->Prop}(h:P i):∃ j,V.int i=.int j/\P j:=⟨i,rfl,h⟩
theorem vBM{f:V->List V->Hp->VK->Prop}(h:te σ H fun x a=>tyV K T x a/\tas σ a fun xs b=>f x xs b Q):tBM K T f te tas σ H Q:=h
theorem vBM0{f:V->List V->Hp->VK->Prop}(h:te σ H fun x a=>tyV K T x a/\f x [] a Q):tBM0 K T f te σ H Q:=h
theorem vComp(h:wi σ H fun J a=>qdg J g c te (qdn nl ixs σ) a Q):qeI wi g c te nl ixs σ H Q:=h
theorem vFor (h:wi σ H fun J d=>∃ W:Nat->Nat->St->Hp->Prop,(∃ m,W 0 m σ d)/\∀ i m σ H,W i m σ H ->
 (J.stop i H/\D.nx σ H)\/(J.go i H/\∃ N:St->Hp->Prop,(∀ a H',N a H'->∃ c,c<m/\W (i+1) c a H')/\∀ x H',J.yld i H x H'->g x σ H' fun b e=>t { D with nx:=N,ct:=N,bk:=D.nx } b e)):qfT wi g t D σ H:=h
theorem vRng1(h:tas σ H fun vs a=>∃ j:Int,vs=[.int j]/\-(2 ^ 62)<=j/\j<2 ^ 62/\R (Itr 0 j.toNat) a):qe4 tas σ H R:=h
theorem vAny (h:te σ H fun v b=>match v with
 | .str x=>R (Its x) b
 | .ref a=>((∃ xs,SqL K b a xs)/\R (Itl K a) b)\/((∃ xs,SqT K b a xs)/\R (Itt K a) b)
 | _=>False):qfI K te σ H R:=h
theorem vGN{i:Nat}{a:St->Hp->Prop}(h:a (σ.set i (some v)) H):qbk i v σ H a:=h
end
section
variable{X:Cx}{K:yg}{o e:Expr}{es:List Expr}{to ta:TE}{t:TA}{name f:Str}{apos cpos pos:Pos}{T id:String}{r:V->List V->Hp->VK->Prop}{tg:Expr}
theorem zj(a:X.K=K):zL X (.builtin "len") (qdi K):=by subst a;show call_lenU
theorem qeK(a:X.K=K)(hc:X.calm=true):zL X (.builtin "all") (qfX K):=by subst a;show call_all hc
theorem qdj(a:X.K=K):SlR X (qfH K):=by subst a;show u_sl
theorem j6(a:X.K=K):OpR X (binaryOp .Add) (qdh K):=by subst a;show u_add
theorem qej(a:X.K=K):MtR X "str.join" (qfc K):=by subst a;show mt_join
theorem qL(b:X.K=K)(c:PE X e ta)(a:∀ it v,letOwnedTupleGo tg it v=pure ():=by intro _ _;rfl):PI X tg e (qfI K ta):=by subst b;show pi_any c a
theorem qby(h:X.K=K)(n:PlainAttrs T)(f:Slot T name id)(g:typeOf (.builtin id)=pure (.type "method_descriptor"))(j:MtR X id r)(l:PE X o to)(i:PA X (e::es) t)
  (b:attributeBase o name X.env (eval o X.env)=eval o X.env:=by rfl)
  (d:((backTo cpos (starEach (e::es) X.env)).all (fun x=>!x.1)&&(backToKw cpos (keywordEach [] X.env)).all (fun x=>x.1.isSome)
   && decide ((e::es).length+([]:List Keyword).length+(if ([]:List Keyword).isEmpty then 0 else 1)<30))=true:=by rfl)
  (c:(apos.endLine==cpos.line)=true:=by rfl) (m:starEach (e::es) X.env=(false,eval e X.env)::starEach es X.env:=by rfl) (a:(backTo cpos (starEach es X.env)).any (·.1)=false:=by rfl) :
  PE X (.Call (.Attribute o name apos) (e::es) [] cpos) (tBM K T r to t):=by
 subst h;show pe_bm n f g j l i b d c m a
end
structure DefOk(P:Program)(w:World)(K:yg)(mg:Str->Option Value)(base:Heap)(CX:CXT)(k:Nat)(x:Str)(ps:LS)(sp:Sp):Prop where
 ex:∃ f fd,FnOk P w K mg base CX k f fd ps sp/\mg x=some (.ref f)/\PySem.W.keepIn K (.ref f)=true/\Binds K fd ps []
section
variable{X:Cx}{CX:CXT}{k:Nat}{ps:LS}{sp:Sp}{E:XK}{x:Str}{p pos:Pos}{e:Expr}{es:List Expr}{t:TA}
theorem qp(D:DefOk X.prog X.w X.K X.mg X.base CX k x ps sp)(j:Room k X.A)(l:zM CX X E)(c:PA X (e::es) t)(g:Gl X x:=by rfl)(a:(x==("__debug__":Str))=false:=by decide)
  (d:starEach (e::es) X.env=(false,eval e X.env)::starEach es X.env:=by rfl) (b:(backTo pos (starEach es X.env)).any (·.1)=false:=by rfl):PE X (.Call (.Name x p) (e::es) [] pos) (qde sp [] E t):=by
 obtain⟨f,m,F,i,h,hb⟩:=D.ex;show pe_call F j g i h hb .nil l c a d b
theorem qbI(c:Gl X x)(a:∃ tk,X.mg x=some (.int i tk))(b:(x==("__debug__":Str))=false:=by decide):PE X (.Name x pos) (tC (.int i)):=by
 obtain⟨tk,a⟩:=a;show qdo c a ⟨tk,rfl⟩ b
end
noncomputable def isaT(t c:String):Bool:=t==c||(t=="bool"&&c=="int")
theorem qao(K:yg):∀ t∈["NoneType","bool","int","str","list","tuple","dict"],∀ c∈["bool","int","str","list","tuple","dict"],PySem.W.kitOne K (.type t) (.type c)=some (isaT t c):=by
 intro t a c hc;simp only[yz,yM,Yt] at a hc;rcases a with rfl | rfl | rfl | rfl | rfl | rfl | rfl<;>rcases hc with rfl | rfl | rfl | rfl | rfl | rfl<;>rfl
noncomputable def qbZ:List Value->Bool
 | [.type a,.type b,.type c,.type d]=>a=="ValueError"&&b=="Exception"&&c=="BaseException"&&d=="object"
 | .ref _::r=>qbZ r
 | _=>false
noncomputable def qfw(K:yg)(C:Addr):Bool:=match K.lookup C with
 | some ⟨.type "type",_,.cls cd,sl⟩=>(match cd.mro,sl.toList with
  | .ref D::bm,[_,_,_,_,some (.builtin n),_]=>D==C&&!cd.hasDel&&qbZ bm&&n=="ValueError.__new__"
  | _,_=>false)
 | _=>false
theorem qcX{K:yg}(X:K.In h)(q:qfw K C=true):∃ m o N bs c b sn sub ab a d e f g i j,
  h.get? C=some (excClassObj m o C N bs c b sn sub ab a d e f g i j "ValueError.__new__")/\qbZ c=true:=by
 unfold qfw at q;split at q
 .rename_i d cd sl ho
  split at q
  .rename_i D c e f g i n j hm hs
   simp only[Yh,Ye,Bool.not_eq_true'] at q;obtain⟨⟨⟨r,p⟩,s⟩,t⟩:=q;subst r t;obtain⟨m,bs,mro,ns,o,u,sn,sub,ab,a,del⟩:=cd;dsimp only at hm p;subst hm p;obtain⟨l⟩:=sl;dsimp only at hs;subst hs;show⟨m,o,ns,bs,c,u,sn,sub,ab,a,d,e,f,g,i,j,X _ _ ho,s⟩
  .cases q
 .cases q
structure XAt(K:yg)(C:Addr):Prop where
 ga:PySem.W.findIn K (.ref C) "__getattribute__"=some (some (.builtin "BaseException.__getattribute__"))
 gn:PySem.W.findIn K (.ref C) "__getattr__"=some none
 bx:PySem.W.mroIn K C (.type "BaseException")=some true
 ob:PySem.W.mroIn K C (.type "object")=some true
 hd:PySem.W.hasDictIn K C=true
 cl:PySem.W.findIn K (.ref C) "__class__"=some (some (.builtin "object.__class__"))
 cg:PySem.W.specialIn K (.builtin "object.__class__") "__get__"=some (some (.builtin "getset_descriptor.__get__"))
 ct:PySem.W.takesIn K (.builtin "object.__class__")=some true
 sa:PySem.W.findIn K (.ref C) "__setattr__"=some (some (.builtin "object.__setattr__"))
 mr:(PySem.W.clsIn K C).any (fun cd=>qbZ cd.mro)=true
 xc:qfw K C=true
theorem bexc_ga_slot:Slot "ValueError" "__getattribute__" "BaseException.__getattribute__":=PySem.F.attr_ValueError.ga
section
variable{prog:Program}{w:World}{A:Around}{E:Value->Shared->Prop}{s:Shared}{K:yg}{x C:Addr}{ox:Obj}{od:Option Obj}{name:Str}{v:Value}
theorem xga_value{Q:Fin->Shared->Prop}(X:K.In s.heap)(I:PySem.W.InstAt s.heap x ox C od)(a:PySem.W.findObj K C od name=some (.value v))(h:Q (.done (.ret v)) s) :
  wpAny (model prog w) A (Builtin.«object.__getattribute__» ⟨[.ref x,.str name tk],[]⟩) Q E s:=by
 have F:=PySem.W.looks_find (M:=model prog w) X I a;show yr (yw (yr (yw (yr (I.type.here (yr (F.here ?_)))))));show yw h
theorem xga_call{R:Result->Shared->Prop}(X:K.In s.heap)(I:PySem.W.InstAt s.heap x ox C od)(hb:PySem.W.mroIn K C (.type "BaseException")=some true)
  (h:wpAny (model prog w) A.in1 (Builtin.«object.__getattribute__» ⟨[.ref x,.str name tk],[]⟩) (fun a s'=>match a with | .done f=>R (.ok f) s' | .again c'=>c'.quiet=true/\codeAny (model prog w) A c' R s') (fun e s'=>R (.error e) s') s) :
  codeAny (model prog w) A (.call (.builtin "BaseException.__getattribute__") ⟨[.ref x,.str name tk],[]⟩) R s:=by
 show xt bexc_ga_slot.plain PySem.F.entry_bexc_ga ?_;show @PySem.W.check_slot (model prog w) _ _ s "BaseException.__getattribute__" "BaseException" "__getattribute__" (.ref x) [.str name tk] [] _ (by room) (by room) (I.type.andThen (xy X hb)) (PySem.F.args_bexc_ga _ _) h
theorem qdz{b:Bool}{Q:Value->Shared->Prop}(X:K.In s.heap)(I:PySem.W.InstAt s.heap x ox C od)(c:XAt K C)
  (h:wpAny (model prog w) A.in1 (Builtin.«object.__getattribute__» ⟨[.ref x,.str name tk],[]⟩) (fun a s'=>match a with | .done (.ret v)=>wpAny (model prog w) A (handedOut v) Q E s' | _=>False) (fun _ _=>False) s) :
  wpAny (model prog w) A (getAttrBy (.ref x) (.str name tk) b expr) Q E s:=by
 unfold getAttrBy;show Yn (yr (I.type.here (yr ((YN X c.ga).here ?_))))
 have d:(onTheHeap (Value.ref C)&&Value.builtin "BaseException.__getattribute__"==Value.builtin "object.__getattribute__")=false:=by
  rw[show(Value.builtin "BaseException.__getattribute__"==Value.builtin "object.__getattribute__")=false by room];rfl
 dsimp only;rw[d,yE (by decide)];unfold getAttrByItsOwn hookBefore;rw[yG (show onTheHeap (Value.ref C)=true from rfl)];show yr ((YN X c.gn).here (yr (X4 (Yn ?_))));have e:(expr&&onTheHeap (Value.builtin "BaseException.__getattribute__"))=false:=by cases expr<;>rfl
 unfold callGetattribute;rw[e,yE (by decide)];unfold boundAndCalled;rw[bexc_ga_slot.bind];show yr (yw ?_);show wpAny _ _ (call (.builtin "BaseException.__getattribute__") [.ref x,.str name tk]) _ _ _;show xQ (xga_call X I c.bx (YE h (fun a s' z=>?_) fun _ _ z=>z.elim));rcases a with(_ | _ | _ | _) | _<;>first | show z | show z.elim
theorem xget{Q:Value->Shared->Prop}(X:K.In s.heap)(I:PySem.W.InstAt s.heap x ox C od)(c:XAt K C)(a:PySem.W.findObj K C od name=some (.value v))(b:PySem.W.handedIn v=true)
  (h:Q v { s with toks:=s.toks+1 }):wpAny (model prog w) A (getAttr (.ref x) name expr) Q E s:=by
 unfold getAttr;show yr (wpAny_mkText (qdz (s:={ s with toks:=s.toks+1 }) X I c (xga_value (s:={ s with toks:=s.toks+1 }) X I a ?_)));show wpAny _ _ (handedOut v) _ _ _;rw[PySem.W.handedOut_of b];show yw h
theorem xclass{Q:Option Value->Shared->Prop}(X:K.In s.heap)(I:PySem.W.InstAt s.heap x ox C od)(c:XAt K C)(a:PySem.W.findObj K C od "__class__"=some (.bind (.builtin "getset_descriptor.__get__") (.builtin "object.__class__")))
  (h:Q (some (.ref C)) { s with toks:=s.toks+1 }):wpAny (model prog w) A (getAttr? (.ref x) "__class__") Q E s:=by
 unfold getAttr? getAttrBy?;show yr (wpAny_mkText (yr (X4 (qdz (s:={ s with toks:=s.toks+1 }) X I c ?_))));have F:=PySem.W.looks_find (M:=model prog w) X I a;show yr (yw (yr (yw (yr (I.type.here (s:={ s with toks:=s.toks+1 }) (yr (F.here (s:={ s with toks:=s.toks+1 }) ?_)))))));show wpAny _ _ (holding [Value.builtin "object.__class__"] (call (.builtin "getset_descriptor.__get__") [.builtin "object.__class__",.ref x,.ref C])>>=ret) _ _ _;show yr (Yn (xQ (PySem.W.class_get (s:={ s with toks:=s.toks+1 }) X I c.ob ?_)));show yw ?_;show wpAny _ _ (handedOut (.ref C)) _ _ _;show yw (yw h)
theorem findObj_class(c:XAt K C):PySem.W.findObj K C od "__class__"=some (.bind (.builtin "getset_descriptor.__get__") (.builtin "object.__class__")):=by
 obtain⟨a,hc,_⟩:=xW c.hd;unfold PySem.W.findObj;rw[hc,Option.bind_some,c.cl,Option.bind_some];simp[c.cg,c.ct]
theorem qcY(c:XAt K C):PySem.W.KitX K (.ref x) (.ref C) (fun h=>PySem.W.InstAt h x ox C od) where
 ty:=fun _ _ _ I=>I.type
 it:=fun _ _ X _=>by
  obtain⟨b,hc,_⟩:=xW c.hd;unfold PySem.W.clsIn at hc;split at hc
  .rename_i c1 d1 cd1 sl1 ho
   intro f i g s' k q;unfold isType loadHead;show yr (wpAny_loadPart (k _ _ (X _ _ ho)) (yw q))
  .cases hc
 ne:=fun h d j its n l X a=>by
  obtain⟨b,hc,_⟩:=xW c.hd;show Bool.eq_false_iff.mpr fun q=>?_;have e:C=d:=X5 (Ye.mp q);subst e;unfold PySem.W.clsIn at hc;split at hc
  .rename_i c1 d1 cd1 sl1 ho
   have z:=(X _ _ ho).symm.trans a;cases z
  .cases hc
 ca:=fun X I k=>xclass X I c (findObj_class c) k
end
theorem qcg{r:List Value}(e:qbZ (.ref c::r)=true):qbZ r=true:=by
 cases r with
 | nil=>cases e
 | cons a r=>show e
theorem qay:∀{l:List Value},qbZ l=true->∃ f:LQ,l=f.map Value.ref++[.type "ValueError",.type "Exception",.type "BaseException",.type "object"]
 | [],e=>by cases e
 | .ref c::r,e=>by
  obtain⟨f,q⟩:=qay (qcg e);show⟨c::f,by rw[q];rfl⟩
 | .type a::r,e=>by
  match r,e with
  | [.type b,.type c,.type d],e =>
   simp only[qbZ,Yh,Ye] at e;obtain⟨⟨⟨rfl,rfl⟩,rfl⟩,rfl⟩:=e;show⟨[],rfl⟩
theorem refuse_exc(self:Value)(e:qbZ l=true):refuseLoop self "__setattr__" l=pure ():=by
 obtain⟨a,rfl⟩:=qay e
 induction a with
 | nil=>show PySem.F.store_ValueError.passes self
 | cons c a ih=>rw[YF,kL,refuseLoop_ref];show ih (qcg e)
theorem qaz(e:qbZ l=true)(h:T∈["ValueError","Exception","BaseException","object"]):l.contains (.type T)=true:=by
 obtain⟨a,rfl⟩:=qay e;rw[List.contains_iff_mem];show yR _ ?_;simp only[yz,yM,Yt] at h ⊢;rcases h with rfl | rfl | rfl | rfl<;>simp
section
variable{prog:Program}{w:World}{A:Around}{E:Value->Shared->Prop}{s:Shared}{K:yg}{x C:Addr}{name:Str}{v:Value}{R:Result->Shared->Prop}
theorem xosa(X:K.In s.heap)(I:PySem.W.InstAt s.heap x ox C od)(c:XAt K C)(n:NoAttr K C name)
  (h:wpAny (model prog w) A.in1 (Builtin.ObjectAttr.storeInOwnDict (.ref x) (.ref C) (.str name tk) name v false)
   (fun b s'=>match b with | .done f=>R (.ok f) s' | .again c'=>c'.quiet=true/\codeAny (model prog w) A c' R s') (fun e s'=>R (.error e) s') s) :
  codeAny (model prog w) A (.call (.builtin "object.__setattr__") ⟨[.ref x,.str name tk,v],[]⟩) R s:=by
 have a:=PySem.F.store_object;obtain⟨d,hc,i⟩:=xW c.mr;have g:PySem.W.Looks (model prog w) s.heap (mroOf (.ref C)) d.mro:=(kn X hc).andThen .now;show xt a.slot.plain a.entry (@PySem.W.check_slot (model prog w) _ _ s "object.__setattr__" "object" "__setattr__" (.ref x) [.str name tk,v] [] _ a.kind a.split (I.type.andThen (xy X c.ob)) (a.args (.ref x) (.str name tk) v) ?_);rw[PySem.W.osa_eq,refuse_eq];show yr (yr (I.type.here (yr (g.here ?_))));rw[refuse_exc _ i];show yw (yr (I.type.here (yr ((YN X n).here (yr (yw ?_))))));show h
theorem xset(X:K.In s.heap)(m:s.heap.get? x=some ⟨.ref C,none,.fields vs,#[]⟩)(c:XAt K C)(n:NoAttr K C name){Q:Unit->Shared->Prop}
  (h:∀ h',h'.get? x=some ⟨.ref C,some s.heap.objs.size,.fields vs,#[]⟩->h'.Ns1 s.heap.objs.size (fun y=>if y=name then some v else none)->(∀ b o,b≠x->s.heap.get? b=some o->h'.get? b=some o) ->
   Q () { s with heap:=h',toks:=s.toks+2 }):wpAny (model prog w) A (setAttr (.ref x) name v) Q E s:=by
 have I:PySem.W.InstAt s.heap x ⟨.ref C,none,.fields vs,#[]⟩ C none:=⟨m,rfl,rfl,YO⟩;obtain⟨H,hc,D⟩:=xW c.hd;show PySem.W.set_plain X I c.sa (xosa (s:={ s with toks:=s.toks+1 }) X I c n ?_);show yr (yw (yr (yr (wpAny_loadPart m (yr ((kn X hc).here (s:={ s with toks:=s.toks+1 }) ?_))))));rw[D];obtain⟨a,g,J,tk,M⟩:=s;show wpAny _ _ (alloc { cls:=.type "dict",data:=.dict #[] }>>=fun d=>update x (fun o=>{ cls:=o.cls,dict:=some d,data:=o.data,slots:=o.slots })>>=fun _=>pure (some d)) _ _ _;have l:x≠a.objs.size:=yJ (yI m);have i:=yu { cls:=.type "dict",data:=.dict #[] } m;show yr (wpAny_alloc' (yr (wpAny_update' i (yw ?_))));have j:=Yy (fun o:Obj=>{ cls:=o.cls,dict:=some a.objs.size,data:=o.data,slots:=o.slots }) i rfl;have f:=(Heap.get?_update_ne (a.push { cls:=.type "dict",data:=.dict #[] }) a.objs.size x (fun o:Obj=>{ cls:=o.cls,dict:=some a.objs.size,data:=o.data,slots:=o.slots }) l.symm).trans (kA rfl rfl);generalize G:(a.push { cls:=.type "dict",data:=.dict #[] }).update x (fun o:Obj=>{ cls:=o.cls,dict:=some a.objs.size,data:=o.data,slots:=o.slots })=h2 at j f ⊢;have nd:h2.Ns a.objs.size (fun _=>none):=⟨_,#[],_,f,rfl,fun e F=>absurd F (by simp),fun _=>rfl⟩;show wpAny _ _ (Builtin.ObjectAttr.storeInDict a.objs.size (.str name tk) name v) _ _ _;unfold Builtin.ObjectAttr.storeInDict Builtin.ObjectAttr.newKeyGuard;show yr (yw (yr (wpAny_nsSet1 (Heap.Ns1.of_empty nd) fun h' u z=>?_)));obtain⟨L,p,B,t,r,q⟩:=u.count (PySem.Within.cons name v PySem.Within.nil);have hz:p.size<=sizeLine:=yi q (by rw[yy,Ym,YA];lk);show yr (wpAny_lookBehind t (by rw[r];show pastItsLine_dict (kB hz)) ?_);show yw (h h' ((z.2 x l).trans j) u fun b o hb e=>(z.2 b (yJ (yI e))).trans ?_);rw[<- G];show(Heap.get?_update_ne _ _ _ _ hb).trans (yu _ e)
theorem ve_check{Q:Unit->Shared->Prop}(X:K.In s.heap)(c:XAt K C)(l:s.heap.get? x=some ox)(a:ox.cls=.ref C)(q:Q () s) :
  wpAny M A (checkBuiltinCall "ValueError.__init__" ⟨[.ref x,u],[]⟩) Q E s:=by
 have F:=Y8;have b:=F.noStar;obtain⟨y,B,N,bs,h,f,sn,sub,ab,i,m,p,r,t,v,w,e,j⟩:=qcX X c.xc;have d:(Value.ref C::h).contains (.type "ValueError")=true:=by rw[Yv,qaz j (by simp),ko]
 obtain⟨o,g,n,tk,z⟩:=s;simp only[checkBuiltinCall,F.initKind,F.initSplit,F.initRow]
 repeat (first | (with_reducible show YJ l ?_;rw[a]) | with_reducible show YJ e ?_ | (with_reducible show xz e ?_;rw[d]) | wp_step)
 show q
noncomputable abbrev xfs(a0:Addr):Array Value:=#[.ref a0,.none,.none,.none,.bool false,.none]
theorem xbase_init(X:K.In s.heap)(a:s.heap.get? x=some ⟨.ref C,none,.fields (xfs a0),#[]⟩)(c:XAt K C){Q:Value->Shared->Prop}
  (h:∀ h' d,h'.get? x=some ⟨.ref C,none,.fields (xfs d),#[]⟩->(∀ b o,b≠x->s.heap.get? b=some o->h'.get? b=some o)->Q .none { s with heap:=h' }) :
  wpAny (model prog w) A (call (.builtin "ValueError.__init__") [.ref x,u]) Q E s:=by
 have F:=Y8;show xQ (xt F.init.plain F.initEntry (ve_check X c a rfl ?_));obtain⟨f,g,i,tk,j⟩:=s
 wp_walk
 show h _ f.objs.size ?_ fun b o hb e=>?_
 .rw [Yy _ (yu _ a) rfl];rfl
 .rw [YC _ _ (Yd hb)];show yu _ e
end
theorem qcZ(e:qbZ l=true)(h:T∉["ValueError","Exception","BaseException","object"]):l.contains (.type T)=false:=by
 obtain⟨b,rfl⟩:=qay e;show Bool.eq_false_iff.mpr fun q=>?_;rcases yx.mp (List.contains_iff_mem.mp q) with z | z
 .obtain⟨a,_,q⟩:=YH.mp z;cases q
 .simp only[yz,yM,Yt,Value.type.injEq] at z h;show h z
section
variable{prog:Program}{w:World}{A:Around}{R:Result->Shared->Prop}{E:Value->Shared->Prop}{h:Heap}{g:Array GenState}{d:Drawn}{t:Nat}{os:OsState}
variable{nm q:Str}{C N:Addr}{bs bm:List Value}{hdct:Bool}{sn:LS}{sub:List Value}{ab:Bool}{col:Option Bool}{dd:Option Addr}{k0 k1 k2 k3 k5:Option Value}
theorem xnew_check{rest:List Value}{Q:Unit->Shared->Prop}(b:h.get? C=some (excClassObj nm q C N bs bm hdct sn sub ab col dd k0 k1 k2 k3 k5 "ValueError.__new__"))(e:qbZ bm=true)(f:Q () ⟨h,g,d,t,os⟩) :
  wpAny M A (checkBuiltinCall "ValueError.__new__" ⟨.ref C::rest,[]⟩) Q E ⟨h,g,d,t,os⟩:=by
 have F:=Y8;have a:(Value.ref C::bm).contains (.type "ValueError")=true:=by rw[Yv,qaz e (by simp),ko]
 have c:=F.noStar;simp only[checkBuiltinCall,F.newKind,F.newSplit,F.newRow]
 repeat (first | show YJ b ?_ | (show xz b ?_;rw[a]) | show wpAny_staticBase_exc b ?_ | show wpAny_madeBy_exc b ?_ | simp only[bne_self_eq_false,xI,XS] | wp_step)
 show f
theorem xnew{rest:List Value}(b:h.get? C=some (excClassObj nm q C N bs bm hdct sn sub ab col dd k0 k1 k2 k3 k5 "ValueError.__new__"))(j:qbZ bm=true)(l:rest.length<=sizeLine)
  (m:R (.ok (.ret (.ref (h.objs.size+1)))) ⟨(h.push { cls:=.type "tuple",data:=.seq rest.toArray }).push { cls:=.ref C,data:=.fields (xfs h.objs.size) },g,d,t,os⟩) :
  codeAny (model prog w) A (.builtin "ValueError.__new__" ⟨.ref C::rest,[]⟩) R ⟨h,g,d,t,os⟩:=by
 have F:=Y8;have i:=F.ends;have e:(Value.ref C::bm).contains (.type "ValueError")=true:=by rw[Yv,qaz j (by simp),ko]
 have c:(Value.ref C::bm).contains (.type "AttributeError")=false:=by rw[Yv,qcZ j (by simp)];rfl
 have f:(Value.ref C::bm).contains (.type "NameError")=false:=by rw[Yv,qcZ j (by simp)];rfl
 show codeAny_builtinAt F.entry ?_;unfold Builtin.«BaseException.__new__»;show PySem.wpAt_bind ?_;show PySem.wpAt _ _ _ (stack>>=_) _ _ _;show PySem.wpAt_bind (PySem.wpAt_stack fun n a=>PySem.wpAt_of_wpAny ?_)
 wp_walk
 show PySem.wpAt_of_wpAny ?_;rw[F.owner]
 repeat (first | with_reducible show wpAny_madeHere_exc F.canon b ?_ | with_reducible show YJ b ?_ | (with_reducible show xz b ?_;first | rw[e] | rw[c] | rw[f]) | wp_step)
 show R _ _;rw[YI];show m
theorem xtype_call{K:yg}{rest:List Value}{Q:Fin->Shared->Prop}(X:K.In h)(c:h.get? C=some (excClassObj nm q C N bs bm hdct sn sub ab col dd k0 k1 k2 k3 k5 "ValueError.__new__"))(m:qbZ bm=true)
  (s:PySem.W.findIn K (.ref C) "__init__"=some (some (.ref f))) (p:PySem.W.isFn K (.ref f)=true) (a:rest.length<=sizeLine)
  (u:wpAny (model prog w) A (call (.ref f) (.ref (h.objs.size+1)::rest)) (fun r s'=>r=.none/\Q (.done (.ret (.ref (h.objs.size+1)))) s') E
   ⟨(h.push { cls:=.type "tuple",data:=.seq rest.toArray }).push { cls:=.ref C,data:=.fields (xfs h.objs.size) },g,d,t,os⟩) :
  wpAny (model prog w) A (Builtin.«type.__call__» ⟨.ref C::rest,[]⟩) Q E ⟨h,g,d,t,os⟩:=by
 have F:=Y8
 repeat (first | with_reducible show YJ c ?_ | with_reducible show wpAny_madeBy_exc c ?_ | wp_step)
 show codeAny_call_builtin_code (ku _ F.quiet) (xnew_check c m (xnew c m a ?_));show wpAny _ _ _ _ _ _;have up:∀ b o,h.get? b=some o->((h.push { cls:=.type "tuple",data:=.seq rest.toArray }).push { cls:=.ref C,data:=.fields (xfs h.objs.size) }).get? b=some o:=fun b o e=>yu _ (yu _ e);have hC1:=up _ _ c;have i:((h.push { cls:=.type "tuple",data:=.seq rest.toArray }).push { cls:=.ref C,data:=.fields (xfs h.objs.size) }).get? (h.objs.size+1)=some { cls:=.ref C,data:=.fields (xfs h.objs.size) }:=kA (by rw[YI]) rfl;have l:K.In ((h.push { cls:=.type "tuple",data:=.seq rest.toArray }).push { cls:=.ref C,data:=.fields (xfs h.objs.size) }):=X.keeps up;have j:(Value.ref C::bm).contains (.ref C)=true:=by simp
 unfold isInstance
 repeat (first | with_reducible show YJ i ?_ | (with_reducible show xz hC1 ?_;rw[j]) | wp_step)
 show wpAny _ _ (typeLookup (.ref C) _) _ _ _;show(YN l s).at (Yn (yr ((PySem.W.bind_fn l _ (Ye.mp p)).at (yr (YE u (fun r s' v=>?_) fun _ _ z=>z)))));obtain⟨rfl,n⟩:=v
 wp_walk
 show n
theorem xcall{K:yg}{rest:List Value}{Q:Value->Shared->Prop}(X:K.In s.heap)(c:XAt K C)(i:PySem.W.findIn K (.ref C) "__init__"=some (some (.ref f)))(e:PySem.W.isFn K (.ref f)=true)(a:rest.length<=sizeLine)
  (l:wpAny (model prog w) (A.under (.builtin "type.__call__" ⟨.ref C::rest,[]⟩)) (call (.ref f) (.ref (s.heap.objs.size+1)::rest)) (fun r s'=>r=.none/\Q (.ref (s.heap.objs.size+1)) s') E
   { s with heap:=(s.heap.push { cls:=.type "tuple",data:=.seq rest.toArray }).push { cls:=.ref C,data:=.fields (xfs s.heap.objs.size) } }) :
  wpAny (model prog w) A (call (.ref C) rest) Q E s:=by
 obtain⟨nm,p,N,bs,bm,hdct,sn,sub,ab,col,dd,k0,k1,k2,k3,k5,b,j⟩:=qcX X c.xc;obtain⟨h,g,d,t,os⟩:=s;have m:=tc_lookup;have n:=tc_bind (.ref C);have o:(⟨h,g,d,t,os⟩:Shared).TypeIs (.ref C) "type":=⟨_,b,rfl⟩;show xQ (kZ ?_);show wpAny _ _ (callAny (.ref C) _) _ _ _
 repeat (any_goals (first | assumption | with_reducible show YJ b ?_ | wp_step))
 show⟨rfl,?_⟩;show codeAny_call_builtin_at (ku _ (by room)) entry_typeCall (wpAny_check_type_call_sub b (xtype_call X b j i e a l))
end
noncomputable def XN(e C:Addr)(dx:Option Addr):HO:=.ext fun h=>∃ a0,h.get? e=some ⟨.ref C,dx,.fields (xfs a0),#[]⟩
noncomputable def XO(e C:Addr)(dx:Option Addr):HO:=.ext fun h=>∃ vs,h.get? e=some ⟨.ref C,dx,.fields vs,#[]⟩
theorem XN.ok(q:h.get? e=some ⟨.ref C,dx,.fields (xfs a0),#[]⟩):ObjOk P w H h e (XN e C dx):=
 ⟨⟨a0,q⟩,⟨_,q⟩,fun _ _ ⟨a,x⟩ k=>⟨a,k _ x⟩⟩
theorem XO.ok(q:h.get? e=some ⟨.ref C,dx,.fields vs,#[]⟩):ObjOk P w H h e (XO e C dx):=
 ⟨⟨vs,q⟩,⟨_,q⟩,fun _ _ ⟨a,x⟩ k=>⟨a,k _ x⟩⟩
def IsX(H:Hp)(e C:Addr)(dx:Option Addr):Prop:=H e=some (XN e C dx)\/H e=some (XO e C dx)
theorem IsX.get(q:IsX H e C dx)(b:HOk P w H h):∃ vs,h.get? e=some ⟨.ref C,dx,.fields vs,#[]⟩:=by
 rcases q with q | q
 .obtain⟨⟨a,x⟩,_⟩:=(show ObjOk P w H h e (XN e C dx) from b e _ q);show⟨_,x⟩
 .obtain⟨⟨a,x⟩,_⟩:=(show ObjOk P w H h e (XO e C dx) from b e _ q);show⟨_,x⟩
theorem upd_id{o:HO}(h:H a=some o):upd H a o=H:=by
 funext b;unfold upd;split
 .rename_i e;subst e;show h.symm
 .rfl
section
variable{X:Cx}{pins:List (Addr×Obj)}{σ:St}{H:Hp}{s:Shared}{e C:Addr}{dx:Option Addr}
theorem qek(I:Inv X pins σ H s){d:Addr}{fs:List (Str×V)}(h:H d=some (.xd fs)):∃(od:Obj) (a:Str->Option Value),s.heap.get? d=some od/\(∀ name,PySem.W.lookIn name od=some (a name))/\∀ f,RelO (fs.lookup f) (a f):=by
 obtain⟨a,n,r⟩:=(show ObjOk X.prog X.w H s.heap d (.xd fs) from I.hok d _ h);obtain⟨od,h1,b⟩:=qb3 n;show⟨od,a,h1,b,r⟩
end
section
variable{X:Cx}{pins:List (Addr×Obj)}{σ:St}{H:Hp}{s:Shared}{a d:Addr}{h':Heap}{o u:HO}{t':Nat}
theorem Inv.both(I:Inv X pins σ H s)(h:Mut (H a))(j:s.heap.objs.size<=d)(k:∀ b v,b≠a->s.heap.get? b=some v->h'.get? b=some v)(l:∃ v,h'.get? a=some v)
  (m:ObjOk X.prog X.w (upd (upd H d u) a o) h' a o) (p:ObjOk X.prog X.w (upd (upd H d u) a o) h' d u) (ne:d≠a):Inv X pins σ (upd (upd H d u) a o) { s with heap:=h',toks:=t' }:=by
 have nd:H d=none:=I.hok.fresh j;have f:∀ b q,H b=some q->¬ Mut (some q)->b≠a:=fun b q e t z=>by subst z;rw[e] at h;show t h
 have i:∀ b,H b=none->b≠a:=fun b e z=>by subst z;rw[e] at h;show h
 have big:∀ b v,s.heap.get? b=some v->b≠d:=fun b v e=>yJ (yj (yI e) j);have up:∀ b q,H b=some q->b≠a->upd (upd H d u) a o b=some q:=fun b q e n=>by rw[qf n,qf (qI e nd)];show e
 show I.un ⟨fun b v e n _ _=>k b v (i b n) e,fun b v e n _ _=>⟨v.slots,k b v (i b n) e⟩,fun b v e n _=>by rw[qf (i b n),qf (big b v e)];show n,fun b v e _=>?_,fun b xs e=>up b _ e (f b _ e fun z=>z),fun b q xs e=>up b _ e (f b _ e fun z=>z),
  fun b x e=>⟨#[],by rw[up b _ e (f b _ e fun z=>z)];simp⟩⟩ fun b q e=>?_
 .by_cases hb:b=a
  .subst hb;show l
  .show⟨v,k b v hb e⟩
 .by_cases hb:b=a
  .subst hb;rw[qb] at e;cases e;show m
  .rw [qf hb] at e;by_cases g:b=d
   .subst g;rw[qb] at e;cases e;show p
   .rw [qf g] at e;show(I.hok b q e).stay (fun c v hc r=>k c v ?_ r) (fun c r=>up c _ r (f c _ r fun z=>z)) fun c xs r=>up c _ r (f c _ r fun z=>z);rcases hc with rfl | hc
    .show hb
    .show f c _ hc fun z=>z
end
inductive FldR(K:yg)(f:Str)(x:V)(H:Hp)(Q:VK):Prop|mk (a C dx:Addr) (fs:List (Str×V)) (v:V) (_:x=.ref a) (_:H a=some (.ins C dx fs)) (_:Cls K C) (_:NoAttr K C f) (_:fs.lookup f=some v) (_:Q v H)
inductive XFlR(K:yg)(f:Str)(x:V)(H:Hp)(Q:VK):Prop|mk (a C dx:Addr) (fs:List (Str×V)) (v:V) (_:x=.ref a) (_:IsX H a C (some dx)) (_:XAt K C) (_:NoAttr K C f) (_:H dx=some (.xd fs)) (_:fs.lookup f=some v) (_:Q v H)
inductive FlUR(K:yg)(f:Str)(x:V)(H:Hp)(Q:VK):Prop | inl (_:FldR K f x H Q) | inr (_:XFlR K f x H Q)
inductive SFdR(K:yg)(f:Str)(x y:V)(H:Hp)(k:Hp->Prop):Prop|mk (a C dx:Addr) (fs:List (Str×V)) (_:x=.ref a) (_:H a=some (.ins C dx fs)) (_:Cls K C) (_:NoAttr K C f) (_:fs.length<1000) (_:k (upd H a (.ins C dx (qD f y fs))))
inductive SXdR(K:yg)(f:Str)(x y:V)(H:Hp)(k:Hp->Prop):Prop|mk (a C:Addr) (_:x=.ref a) (_:H a=some (XN a C none)) (_:XAt K C) (_:NoAttr K C f) (_:∀ dx,H dx=none->k (upd (upd H dx (.xd [(f,y)])) a (XN a C (some dx))))
inductive SFUR(K:yg)(f:Str)(x y:V)(H:Hp)(k:Hp->Prop):Prop | inl (_:SFdR K f x y H k) | inr (_:SXdR K f x y H k)
def qff(K:yg)(b:TE)(f:Str):TE:=fun σ H Q=>b σ H fun x a=>FlUR K f x a Q
def qfg(K:yg)(c d:TE)(f:Str):TS:=fun D σ H=>d σ H fun y a=>c σ a fun x b=>SFUR K f x y b (D.nx σ)
section
variable{X:Cx}{o e value:Expr}{f:Str}{pos pos':Pos}{ta tv:TE}{K:yg}
theorem qB(w:X.K=K)(z:PE X e ta)(hb:attributeBase e f X.env (eval e X.env)=eval e X.env):PE X (.Attribute e f pos) (qff K ta f):=by
 subst w;intro pins s σ H Q I h;show attr_of hb (thn (z pins s σ H _ I h) fun u E ⟨x,j,b,m,i⟩=>?_);rcases i with⟨a,C,dx,fs,v,rfl,g,c,n,l,q⟩ | ⟨a,C,dx,fs,v,rfl,g,c,n,y,l,q⟩
 .obtain rfl:u=Value.ref a:=m;show getattr_ok b g c n l fun D F p d=>⟨v,j,p,d,q⟩
 .obtain rfl:u=Value.ref a:=m;obtain⟨vs,i⟩:=g.get b.hok;obtain⟨od,B,h1,t,r⟩:=qek b y;obtain⟨D,A,d⟩:=RelO.some_of (v:=v) (o:=B f) (by rw[<- l];show r f);show xget b.kIn (od:=some od) ⟨i,rfl,rfl,h1⟩ c (PySem.W.findObj_own c.hd n rfl (by rw[t,A])) (qb4 d) ⟨v,j,b.tok _,d,q⟩
theorem jT(J:X.K=K)(L:PE X o ta)(hv:PE X value tv)(M:swapsWith value (some (.Attribute o f pos')) pos.line X.env=pure false):PS X (.Assign [.Attribute o f pos'] value pos) (qfg K ta tv f):=by
 subst J;intro pins s σ H D I h;show plainObj_wpAny_Assign_Attribute (thn (hv pins s σ H _ I h) fun u N ⟨y,A,B,z,q⟩=>thn (L pins N σ A _ B q) fun t i ⟨x,p,b,v,e⟩=>?_) M;rcases e with⟨a,C,dx,fs,rfl,d,c,n,l,m⟩ | ⟨a,C,rfl,d,c,n,m⟩
 .obtain rfl:t=Value.ref a:=v;show setattr_ok b d c n l z fun O E=>⟨σ,_,E,m⟩
 .obtain rfl:t=Value.ref a:=v;obtain⟨⟨a0,e⟩,_⟩:=(show ObjOk X.prog X.w p i.heap a (XN a C none) from b.hok a _ d);show xset b.kIn e c n fun h' r F G=>?_;have nd:p i.heap.objs.size=none:=b.hok.fresh (yh _);have ne:i.heap.objs.size≠a:=Yg (yI e);show⟨σ,_,b.both (o:=XN a C (some i.heap.objs.size)) (u:=.xd [(f,y)]) (by rw[d];show YO) (yh _) G ⟨_,r⟩ (XN.ok r) ⟨_,F,fun g=>?_⟩ ne,m _ nd⟩;by_cases j:g=f
  .subst j;simp only[List.lookup,xE,Xp];show z
  .have hb:(g==f)=false:=Yz.mpr j;simp only[List.lookup,hb,yE j];show YO
end
def qdA(C:Addr)(sp:Sp)(E:XK)(t:TA):TE:=fun σ H Q=>t σ H fun vs a=>vs.length<=1000/\∀ x,a x=none->sp (.ref x::vs) (upd a x (XN x C none)) (fun v b=>v=.non/\Q (.ref x) b) E
structure XMk(K:yg)(C f:Addr):Prop where
 at_:XAt K C
 init:PySem.W.findIn K (.ref C) "__init__"=some (some (.ref f))
 fn:PySem.W.isFn K (.ref f)=true
 kp:PySem.W.keepIn K (.ref C)=true
section
variable{X:Cx}{CX:CXT}{k:Nat}{f C:Addr}{fd:FuncData}{ps:LS}{sp:Sp}{E:XK}{x m:Str}{p pos apos:Pos}{e o:Expr}{es:List Expr}{ta:TE}{t:TA}
theorem run_xmake{Q:VK}{vs:List V}(M:XMk X.K C f)(F:FnOk X.prog X.w X.K X.mg X.base CX k f fd ps sp)(y:Room (k+1) X.A)(hb:Binds X.K fd ps [])
  (B:zM CX X E) (I:Inv X pins σ H s) (r:Vals vs us) (i:vs.length<=1000) (h:∀ x,H x=none->sp (.ref x::vs) (upd H x (XN x C none)) (fun v n=>v=.non/\Q (.ref x) n) E) :
  wpAny (model X.prog X.w) X.A (call (.ref C) us) (EP X pins σ Q) X.xe s:=by
 have l:=h (s.heap.objs.size+1) (I.hok.fresh (xC _));have up:∀ b o,s.heap.get? b=some o->((s.heap.push { cls:=.type "tuple",data:=.seq us.toArray }).push { cls:=.ref C,data:=.fields (xfs s.heap.objs.size) }).get? b=some o:=fun b o q=>yu _ (yu _ q);have d:((s.heap.push { cls:=.type "tuple",data:=.seq us.toArray }).push { cls:=.ref C,data:=.fields (xfs s.heap.objs.size) }).get? (s.heap.objs.size+1)=some ⟨.ref C,none,.fields (xfs s.heap.objs.size),#[]⟩:=kA (by rw[YI]) rfl;have g:=I.laid (a:=s.heap.objs.size+1) (o:=XN (s.heap.objs.size+1) C none) (t':=s.toks) up (xC _) (XN.ok d);have m:Vals (V.ref (s.heap.objs.size+1)::vs) (Value.ref (s.heap.objs.size+1)::us):=.cons rfl r
 have hl:(Value.ref (s.heap.objs.size+1)::us++[]).length=ps.length:=by
  have q:=m.length;rw[F.len _ _ _ _ l] at q;rw[Yb];show q.symm
 have j:us.length<=sizeLine:=by rw[<- r.length];show yT (qi i)
 show xcall I.kIn M.at_ M.init M.fn j (xQ (Xf (F.run _ X.stack _ _ ⟨Value.ref (s.heap.objs.size+1)::us,[]⟩ (Value.ref (s.heap.objs.size+1)::us) _ _ E (y.make C us [])
  (g.env0.make C us []) (by have z:=hb _ (Value.ref (s.heap.objs.size+1)::us) g.kIn hl;rw[Yb] at z;show z) m l) fun r s' c=>?_))
 cases r with
 | error e=>show B pins σ _ _ e s' g c
 | ok fl =>
  cases fl with
  | ret u =>
   obtain⟨v,H',p,G,t,D⟩:=g.after c;subst t;show⟨G,⟨V.ref (s.heap.objs.size+1),H',p,rfl,D⟩⟩
  | next=>show False.elim c
  | brk=>show False.elim c
  | cont=>show False.elim c
theorem pe_xmake(M:XMk X.K C f)(F:FnOk X.prog X.w X.K X.mg X.base CX k f fd ps sp)(l:Room (k+1) X.A)(i:Gl X x)(j:X.mg x=some (.ref C))(hb:Binds X.K fd ps [])(m:zM CX X E)
  (d:PA X (e::es) t) (a:(x==("__debug__":Str))=false:=by decide) (g:starEach (e::es) X.env=(false,eval e X.env)::starEach es X.env:=by rfl) (b:(backTo pos (starEach es X.env)).any (·.1)=false:=by rfl) :
  PE X (.Call (.Name x p) (e::es) [] pos) (qdA C sp E t):=by
 intro pins s σ H Q I h;show xF (qak I i j ?_ a);show xG (h₀:=X.base) I.ok.mod.kin M.kp (thn (d pos pins s σ H _ I h) fun us o ⟨vs,n,c,r,z,q⟩=>⟨c.kIn,?_⟩) g b;show run_xmake M F l hb m c r z q
structure CMeth(K:yg)(C:Addr)(m:Str)(f:Addr):Prop where
 rd:PySem.W.readsIn K C (.type "type")=true
 at_:PySem.W.findCls K (.ref C) (.type "type") m=some (.val (.ref f))
 ga:PySem.W.specialIn K (.ref C) "__getattribute__"=some (some (.builtin "type.__getattribute__"))
 kp:PySem.W.keepIn K (.ref f)=true
theorem pe_clsm(M:CMeth X.K C m f)(F:FnOk X.prog X.w X.K X.mg X.base CX k f fd ps sp)(l:Room k X.A)(i:Gl X x)(j:X.mg x=some (.ref C))(hb:Binds X.K fd ps [])(o:zM CX X E)(g:PA X (e::es) t)
  (a:(x==("__debug__":Str))=false:=by decide) (c:starEach (e::es) X.env=(false,eval e X.env)::starEach es X.env:=by rfl) (b:(backTo pos (starEach es X.env)).any (·.1)=false:=by rfl)
  (n:eval (.Call (.Attribute (.Name x p) m apos) (e::es) [] pos) X.env=(do
   let ov <- eval (.Name x p) X.env
   standAt apos.atName
   let (f,first) <- holding [ov] (getMethod ov m pl)
   callWith pos f first (backTo pos (starEach (e::es) X.env)) (backToKw pos (keywordEach [] X.env))):=by rfl) :
  PE X (.Call (.Attribute (.Name x p) m apos) (e::es) [] pos) (qde sp [] E t):=by
 intro pins s σ H Q I h;show Xn (pl:=pl) (qak I i j ?_ a) n;show PySem.W.method_cls I.kIn M.ga (PySem.W.cls_value I.kIn M.rd M.at_ rfl ?_);show xG (first:=[]) (h₀:=X.base) I.ok.mod.kin M.kp (thn (g pos pins _ σ H _ (I.tok (s.toks+1)) h) fun us v ⟨vs,u,d,r,q⟩=>⟨d.kIn,?_⟩) c b;show qcQ F l hb .nil o d r q
end
def qel(K:yg)(t:TA):TE:=fun σ H Q=>t σ H fun vs b=>∃ a C y,vs=[.ref a,y]/\b a=some (XN a C none)/\XAt K C/\Q .non b
theorem ve_type:PySem.W.Looks M h (typeOf (.type "ValueError")) (.type "type"):=PySem.W.Looks.of_pure (by kernel_rfl)
theorem ve_opaque:PySem.W.Looks M h (opaqueClassAbove (.type "ValueError")) none:=PySem.W.Looks.of_pure (by kernel_rfl)
structure VInit(K:yg):Prop where
 ga:PySem.W.findIn K (.type "type") "__getattribute__"=some (some (.builtin "type.__getattribute__"))
 su:PySem.W.subIn K (.type "type") (.type "type")=some true
 at_:PySem.W.findCls K (.type "ValueError") (.type "type") "__init__"=some (.val (.builtin "ValueError.__init__"))
section
variable{X:Cx}{p pos apos:Pos}{e:Expr}{es:List Expr}{t:TA}{K:yg}
theorem k_vinit(E:X.K=K)(V:VInit K)(G:Gl X "ValueError")(L:X.mg "ValueError"=none)(hv:bootBuiltins "ValueError"=some (.type "ValueError"))(F:PA X (e::es) t)
  (l:starEach (e::es) X.env=(false,eval e X.env)::starEach es X.env:=by rfl) (j:(backTo pos (starEach es X.env)).any (·.1)=false:=by rfl)
  (M:eval (.Call (.Attribute (.Name "ValueError" p) "__init__" apos) (e::es) [] pos) X.env=(do
   let ov <- eval (.Name "ValueError" p) X.env
   standAt apos.atName
   let (f,first) <- holding [ov] (getMethod ov "__init__" pl)
   callWith pos f first (backTo pos (starEach (e::es) X.env)) (backToKw pos (keywordEach [] X.env))):=by rfl) :
  PE X (.Call (.Attribute (.Name "ValueError" p) "__init__" apos) (e::es) [] pos) (qel K t):=by
 subst E;intro pins s σ H Q I h;show Xn (pl:=pl) (qaR I G L hv ?_) M
 have i:∀{d:Value×List Value->Shared->Prop},d (.builtin "ValueError.__init__",[]) { s with toks:=s.toks+1 }->wpAny (model X.prog X.w) X.A (getMethod (.type "ValueError") "__init__" pl) d X.xe s:=fun{d} q=>by
  unfold getMethod;show yr ((ve_type.andThen (YN I.kIn V.ga)).here ?_);dsimp only;rw[yG PySem.W.canon_tga];show yr (PySem.W.cls_open (hook:=none) I.kIn ve_opaque ve_type V.ga (PySem.W.Looks.now) V.su V.at_ (yw ?_));show wpAny _ _ (handedOut _) _ _ _;show PySem.W.handed_on rfl (yw q)
 show i ?_;have r:=F pos pins _ σ H _ (I.tok (s.toks+1)) h;rw[l] at r ⊢;show XT (by show(false||(backTo pos (starEach es X.env)).any (·.1))=false;rw[j]<;>rfl) (X7 ?_);show thn r fun us z ⟨vs,m,b,O,a,C,y,B,g,c,q⟩=>?_;subst B;obtain⟨u,v,rfl,P,S⟩:=qd6 O;cases P;obtain⟨⟨a0,N⟩,_⟩:=(show ObjOk X.prog X.w m z.heap a (XN a C none) from b.hok a _ g);show xbase_init b.kIn N c fun h' R n D=>?_;have J:=b.write (x:=a) (e:=a) (o:=XN a C none) (t':=z.toks) (by rw[g];show YO) (.inl rfl) D ⟨_,n⟩ (XN.ok n);rw[upd_id g] at J;show⟨.non,m,J,rfl,q⟩
end
structure Keep(fs zs:LQ)(h h':Heap):Prop where
 keep:∀ b o,h.get? b=some o->b∉zs->b∉fs->h'.get? b=some o
 slot:∀ b o,h.get? b=some o->b∉zs->b∈fs->∃ sl,h'.get? b=some { o with slots:=sl }
structure Trc(h:Heap)(e:Addr)(C:Value)(dx:Option Addr)(T:Addr)(fl:Value):Prop where
 ex:∃ vs,h.get? e=some ⟨C,dx,.fields vs,#[]⟩/\vs[1]?=some (.ref T)/\vs[2]?=some .none
 tb:∃ ts,h.get? T=some ⟨.type "traceback",none,.fields ts,#[]⟩/\ts[3]?=some fl
 ne:T≠e
section
variable{M:Model}{A:Around}{E:Value->Shared->Prop}{s:Shared}{base:Heap}{env:Env}{outer:List Env}{L e:Addr}{C:Value}{dx:Option Addr}{vs:Array Value}
theorem qem{d:Value}{p:Bool}{Q:Unit->Shared->Prop}(r:A.frames=some (env::outer))(hl:s.heap.FunFrames base (env::outer))(F:env.frame=some L)(w:s.heap.get? e=some ⟨C,dx,.fields vs,#[]⟩)(hsz:1<vs.size)(B:vs[2]?=some .none)
  (h:∀ h' T,s.heap.objs.size<=T->Trc h' e C dx T (rawInt L)->Keep (frs (env::outer)) [e] s.heap h'->Q () { s with heap:=h' }) :
  wpAny M A (do let a <- frameOf env;let pl <- entryPlaceOf L p;let b <- EntryCells.newEntry d a .none (rawInt L) .none pl;setField (.ref e) 1 b) Q E s:=by
 have l:e∉frs (env::outer):=fun G=>by
  obtain⟨_,o,y,t⟩:=hl.mem G;rw[w] at y;cases y;show t vs rfl
 show yr (wpAny_frameOf_fun r hl F fun c n=>yr (wpAny_entryPlaceOf fun pl m=>?_));unfold EntryCells.newEntry newFields;show yr (xP ?_ (m.sizeOk5 _ _ _ _ _));have i:c.get? e=some ⟨C,dx,.fields vs,#[]⟩:=(n.2.1 e l).trans w;generalize u:([d,.ref L,.none,rawInt L,.none]++(if pl.isEmpty then List.replicate 6 Value.none else pl)).toArray=v;have D:v[3]?=some (rawInt L):=by rw[<- u];first | (simp;done) | (rcases m with rfl | ⟨_,_,_,_,_,_,_,rfl⟩<;>simp)
 have j:=yu (h:=c) { cls:=.type "traceback",dict:=none,data:=.fields v } i;have g:c.objs.size≠e:=Yg (yI i);show wpAny_setField j rfl hsz (h _ c.objs.size (Kb n.1.symm) ⟨⟨vs.setIfInBounds 1 (.ref c.objs.size),?_,by simp[hsz],by rw[Array.getElem?_setIfInBounds_ne (by decide)];show B⟩,⟨v,?_,D⟩,g⟩ ⟨fun b o q hb x=>?_,fun b o q hb x=>?_⟩)
 .rw [Yy _ j rfl];rfl
 .rw [YC _ _ (Yd g)];show yU c rfl
 .have f:b≠e:=fun z=>hb (by simp[z]);rw[YC _ _ (Yd f)];show yu _ ((n.2.1 b x).trans q)
 .have f:b≠e:=fun z=>hb (by simp[z]);obtain⟨H,z⟩:=n.2.2 b o q;show⟨H,by rw[YC _ _ (Yd f)];show yu _ z⟩
theorem qch{Q:Unit->Shared->Prop}(a:A.frames=some (env::outer))(hl:s.heap.FunFrames base (env::outer))(c:env.frame=some L)(b:s.heap.get? e=some ⟨C,dx,.fields vs,#[]⟩)(h1:vs[1]?=some .none)(d:vs[2]?=some .none)
  (h:∀ h' T,s.heap.objs.size<=T->Trc h' e C dx T (rawInt L)->Keep (frs (env::outer)) [e] s.heap h'->Q () { s with heap:=h' }):wpAny M A (noteFrame (.ref e) env) Q E s:=by
 unfold noteFrame;simp only[c];show yr (xk b rfl h1 ?_);rw[yE (by decide)];show qem a hl c b (Y9.mp h1).1 d h
theorem qc0{T:Addr}{Q:Unit->Shared->Prop}(g:A.frames=some (env::outer))(hl:s.heap.FunFrames base (env::outer))(r:env.frame=some L)(t:Trc s.heap e C dx T .none)
  (h:∀ h' d,s.heap.objs.size<=d->Trc h' e C dx d (rawInt L)->Keep (frs (env::outer)) [e,T] s.heap h'->Q () { s with heap:=h' }):wpAny M A (noteFrame (.ref e) env) Q E s:=by
 obtain⟨⟨vs,p,h1,u⟩,⟨w,f,n⟩,j⟩:=t;unfold noteFrame;simp only[r];show yr (xk p rfl h1 ?_);rw[yG (show(Value.ref T != Value.none)=true from by simp)];show yr (xk f rfl n ?_);rw[yE (show ¬ ((Value.none==rawInt L)=true) from by simp[rawInt])];show yr (wpAny_setField f rfl (Y9.mp n).1 ?_);have a:∀ b,b≠T->(s.heap.update T (Obj.mapFields (·.setIfInBounds 3 Value.none))).get? b=s.heap.get? b:=fun b hb=>YC _ _ (Yd hb);have m:(s.heap.update T (Obj.mapFields (·.setIfInBounds 3 Value.none))).objs.size=s.heap.objs.size:=Heap.size_after_update ..;show qem (s:={ s with heap:=s.heap.update T (Obj.mapFields (·.setIfInBounds 3 Value.none)) }) g (hl.of_keeps fun b o hb l=>?_) r ((a e (Yd j)).trans p) (Y9.mp h1).1 u fun h' d v t' k=>?_
 .have c:b≠T:=fun q=>by rw[q,f] at hb;cases hb;show l w rfl
  show⟨o,(a b c).trans hb,rfl⟩
 .show h h' d (by rw[<- m];show v) t' ⟨fun b o q hb i=>?_,fun b o q hb i=>?_⟩
  .have c:b≠T:=fun z=>hb (by simp[z]);show k.keep b o ((a b c).trans q) (fun z=>hb (by simp only[yv] at z;simp[z])) i
  .have c:b≠T:=fun z=>hb (by simp[z]);show k.slot b o ((a b c).trans q) (fun z=>hb (by simp only[yv] at z;simp[z])) i
theorem qbJ{T:Addr}{Q:Unit->Shared->Prop}(t:Trc s.heap e C dx T fl)(h:∀ h',Trc h' e C dx T .none->(∀ b o,b≠T->s.heap.get? b=some o->h'.get? b=some o)->h'.objs.size=s.heap.objs.size->Q () { s with heap:=h' }) :
  wpAny M A (setFlight (.ref e) none) Q E s:=by
 obtain⟨⟨vs,f,h1,i⟩,⟨g,d,j⟩,c⟩:=t;have a:3<g.size:=(Y9.mp j).1;unfold setFlight;show yr (xk f rfl h1 ?_);rw[yG (show(Value.ref T != Value.none)=true from by simp)];show wpAny_setField d rfl a (h _ ⟨⟨vs,?_,h1,i⟩,⟨g.setIfInBounds 3 .none,?_,by simp[a]⟩,c⟩ (fun b o hb q=>?_) (Heap.size_after_update ..))
 .rw [YC _ _ c];show f
 .rw [Yy _ d rfl];rfl
 .rw [YC _ _ (Yd hb)];show q
end
def CX1(P:Program)(w:World):CXT:=fun b H s E c s'=>∃(a C:Addr) (dx:Option Addr) (T:Addr) (H':Hp),c=.ref a/\s'.os=s.os/\AllBare s'.gens/\Un (frs b) [] H H' s.heap s'.heap/\HOk P w H' s'.heap /\
 H' a=some (XO a C dx)/\Trc s'.heap a (.ref C) dx T .none/\s.heap.objs.size<=T/\H' T=none/\E (.ref C) dx H'
section
variable{X:Cx}{pins:List (Addr×Obj)}{σ:St}{H:Hp}{s:Shared}
theorem qbK{T:Addr}(I:Inv X pins σ H s)(f:H a=some (XO a C dx))(k:Keep (frs X.stack) zs s.heap h')(hz:∀ b∈zs,b=a\/H b=none)(t:Trc h' a (.ref C) dx T fl):HOk X.prog X.w H h':=fun b u e=>by
 by_cases hb:b=a
 .subst hb;rw[f] at e;cases e;obtain⟨vs,q,_⟩:=t.ex;show XO.ok q
 .have d:∀ c o,H c=some o->c≠a->c∉zs/\c∉frs X.stack:=fun c o q n=>⟨fun z=>(hz c z).elim n fun y=>(by rw[y] at q;cases q),fun z=>(by have y:=I.stkFree c z;rw[y] at q;cases q)⟩;show(I.hok b u e).stay (fun c v hc r=>?_) (fun _ q=>q) fun _ _ q=>q;rcases hc with rfl | hc
  .show k.keep c v r (d c _ e hb).1 (d c _ e hb).2
  .have n:c≠a:=fun z=>by rw[z,f] at hc;cases hc
   show k.keep c v r (d c _ hc n).1 (d c _ hc n).2
theorem qen{T:Addr}(I:Inv X pins σ H s)(h:X.ex=[])(r:H a=some (XO a C dx))(k:Keep (frs X.stack) zs s.heap h')(hz:∀ b∈zs,b=a\/X.s₀.heap.objs.size<=b)(t:Trc h' a (.ref C) dx T fl) :
  Un X.fs [] X.H₀ H X.s₀.heap h':=by
 have B:=I.base;rw[h] at B;have i:∀ b o,X.s₀.heap.get? b=some o->b≠X.env.locals:=fun b o e=>yJ (yj (yI e) I.ok.above);have l:∀ b o,X.s₀.heap.get? b=some o->b≠a->b∉zs:=fun b o e n z=>(hz b z).elim n fun y=>absurd (yj (yI e) y) (Yu _);have p:∀ b,H b=none->b≠a:=fun b n z=>by rw[z,r] at n;cases n
 have j:∀ b o,X.s₀.heap.get? b=some o->b∉X.fs->b∉frs X.stack:=fun b o e n z=>(yz.mp (I.stkSub b z)).elim (i b o e) n;show⟨fun b o e n hb c=>?_,fun b o e n hb c=>?_,B.free,fun b o e c=>?_,B.tups,B.frzs,B.tbls⟩
 .show k.keep b o (B.keep b o e n hb c) (l b o e (p b (B.free b o e n c))) (j b o e hb)
 .obtain⟨v,q⟩:=B.slot b o e n hb c;have g:=l b o e (p b (B.free b o e n c));by_cases d:b∈frs X.stack
  .obtain⟨f,m⟩:=k.slot b _ q g d;show⟨f,m⟩
  .show⟨v,k.keep b _ q g d⟩
 .obtain⟨u,q⟩:=B.there b o e c;by_cases hb:b=a
  .subst hb;obtain⟨vs,z,_⟩:=t.ex;show⟨_,z⟩
  .have g:=l b o e hb;by_cases d:b∈frs X.stack
   .obtain⟨f,m⟩:=k.slot b _ q g d;show⟨_,m⟩
   .show⟨u,k.keep b _ q g d⟩
end
structure XOk(X:Cx)(EK:St->XK):Prop where
 pass:∀(pins:List (Addr×Obj)) (σ:St) (H:Hp) (s:Shared) (e:Value) (s':Shared),Inv X pins σ H s->CX1 X.prog X.w X.stack H s (EK σ) e s'->X.xe e s'
 rais:∀(pins:List (Addr×Obj)) (σ:St) (H:Hp) (s:Shared) (a C:Addr) (dx:Option Addr),Inv X pins σ H s->H a=some (XN a C dx)->EK σ (.ref C) dx (upd H a (XO a C dx))->X.xe (.ref a) s
 calm:X.calm=true
section
variable{P:Program}{w:World}{K:yg}{mg:Str->Option Value}{base:Heap}{N:LS}{qual:Str}{scope:Scope}{f:Addr}{cd:Value}{A:Around}{outer:List Env}{s0:Shared}{H0:Hp}{E:XK}
theorem qci:XOk (qeg (CX1 P w) P w K mg base N qual scope f cd A outer s0 H0 E) fun _=>E where
 calm:=rfl
 pass:=by
  intro pins σ H s O s' I m;obtain⟨a,C,dx,T,H',rfl,D,l,un,B,g,t,M,v,q⟩:=m;have J:=I.call' (s':=s') (H':=H') (ch:=[]) D un B l (fun b z=>absurd z (by simp));show wpAny _ _ (leaving _ _) _ _ _;unfold leaving;show yr (qc0 (base:=base) J.ok.frames J.stack rfl t fun h' d h t' k=>?_);show qbJ (s:={ s' with heap:=h' }) t' fun u i p L=>?_;have F:s0.heap.objs.size<=s.heap.objs.size:=I.sz;have j:=J.sz
  have r:Keep (frs (envOfC qual scope s0.heap.objs.size f cd::outer)) [a,T,d] s'.heap u:=by
   show⟨fun b o e z n=>?_,fun b o e z n=>?_⟩
   .simp only[yz,yM,Yt,Ka] at z;show p b o z.2.2 (k.keep b o e (by simp[z.1,z.2.1]) n)
   .simp only[yz,yM,Yt,Ka] at z;obtain⟨G,y⟩:=k.slot b o e (by simp[z.1,z.2.1]) n;show⟨G,p b _ z.2.2 y⟩
  have c:H' d=none:=J.hok.fresh h;show⟨a,C,dx,d,H',rfl,J.os,l,qen J rfl g r (fun b hb=>?_) i,qbK J g r (fun b hb=>?_) i,g,i,yi j h,c,q⟩
  .simp only[yz,yM,Yt] at hb;rcases hb with rfl | rfl | rfl
   .show .inl rfl
   .show .inr (yi F M)
   .show .inr (yi j h)
  .simp only[yz,yM,Yt] at hb;rcases hb with rfl | rfl | rfl
   .show .inl rfl
   .show .inr v
   .show .inr c
 rais:=by
  intro pins σ H s a C dx I e q;obtain⟨⟨a0,m⟩,_⟩:=(show ObjOk _ _ H s.heap a (XN a C dx) from I.hok a _ e);have J:Inv _ pins σ (upd H a (XO a C dx)) s:=I.write (x:=a) (e:=a) (o:=XO a C dx) (h':=s.heap) (t':=s.toks) (by rw[e];show YO) (.inl rfl) (fun _ _ _ q=>q) ⟨_,m⟩ (XO.ok m);show wpAny _ _ (leaving _ _) _ _ _;unfold leaving;show yr (qch (base:=base) J.ok.frames J.stack rfl m rfl rfl fun h' d h t' k=>?_);show qbJ (s:={ s with heap:=h' }) t' fun u i p L=>?_;have j:=J.sz;have g:upd H a (XO a C dx) a=some (XO a C dx):=qb
  have r:Keep (frs (envOfC qual scope s0.heap.objs.size f cd::outer)) [a,d] s.heap u:=by
   show⟨fun b o e z n=>?_,fun b o e z n=>?_⟩
   .simp only[yz,yM,Yt,Ka] at z;show p b o z.2 (k.keep b o e (by simp[z.1]) n)
   .simp only[yz,yM,Yt,Ka] at z;obtain⟨G,y⟩:=k.slot b o e (by simp[z.1]) n;show⟨G,p b _ z.2 y⟩
  have c:upd H a (XO a C dx) d=none:=J.hok.fresh h;show⟨a,C,dx,d,_,rfl,J.os,J.bare,qen J rfl g r (fun b hb=>?_) i,qbK J g r (fun b hb=>?_) i,g,i,yi j h,c,q⟩
  .simp only[yz,yM,Yt] at hb;rcases hb with rfl | rfl
   .show .inl rfl
   .show .inr (yi j h)
  .simp only[yz,yM,Yt] at hb;rcases hb with rfl | rfl
   .show .inl rfl
   .show .inr c
end
def qeo(K:yg)(c:St->XK)(te:TE):TS:=fun _ σ H=>te σ H fun x b=>∃ a C dx,x=.ref a/\b a=some (XN a C dx)/\XAt K C/\c σ (.ref C) dx (upd b a (XO a C dx))
section
variable{X:Cx}{EK:St->XK}{e:Expr}{te:TE}{pos:Pos}{K:yg}
theorem xraise{x:Sem Value}{Q:Flow->Shared->Prop}(p:A.handled=none)
  (h:wpAny M A x (fun v b=>∃ a C dx a0,v=.ref a/\K.In b.heap/\XAt K C/\b.heap.get? a=some ⟨.ref C,dx,.fields (xfs a0),#[]⟩/\E (.ref a) b) E s):wpAny M A (raiseStmt env (some x) none) Q E s:=by
 unfold raiseStmt;show yr (YE h (fun v b h1=>?_) fun _ _ z=>z);obtain⟨a,C,dx,a0,rfl,f,c,o,n⟩:=h1;obtain⟨F,H,N,bs,l,j,sn,sub,ab,m,r,u,w,y,B,D,i,q⟩:=qcX f c.xc;have e:(Value.ref C::l).contains (.type "BaseException")=true:=by rw[Yv,qaz q (by simp),ko]
 obtain⟨t,g,d,tk,G⟩:=b
 repeat (first | with_reducible show YJ o ?_ | with_reducible show YJ i ?_ | (with_reducible show xz i ?_;rw[e]) | wp_step)
 show wpAny_raiseNew_none p n
theorem k_raise(j:X.K=K)(f:XOk X EK)(l:PE X e te):PS X (.Raise (some e) none pos) (qeo K EK te):=by
 subst j;intro pins s σ H D I h;rw[arm_exec_Raise];show yr (XD (xraise (K:=X.K) (I.ok.hd f.calm) ?_));show yr (thn (l pins s σ H _ I h) fun v i ⟨x,d,b,n,a,C,dx,ex,g,c,q⟩=>yr (XD (yw ?_)));subst ex;cases n;obtain⟨⟨a0,m⟩,_⟩:=(show ObjOk _ _ d i.heap a (XN a C dx) from b.hok a _ g);show⟨a,C,dx,a0,rfl,b.kIn,c,m,f.rais pins σ d i a C dx b g q⟩
end
def qep(sp:Sp)(a:St->XK)(t:TA):TE:=fun σ H Q=>t σ H fun vs b=>sp vs b Q (a σ)
def tMethS(C:Addr)(m:Str)(sp:Sp)(b:St->XK)(d:TE)(t:TA):TE:=fun σ H Q=>d σ H fun x a=>MeR C m x a (t σ a fun vs c=>sp (x::vs) c Q (b σ))
def tMakeS(C:Addr)(sp:Sp)(b:St->XK)(t:TA):TE:=fun σ H Q=>t σ H fun vs a=>∀ x dx,a x=none->a dx=none->dx≠x ->
 sp (.ref x::vs) (upd (upd a dx (.own x)) x (.ins C dx [])) (fun v c=>v=.non/\Q (.ref x) c) (b σ)
structure MethOk(P:Program)(w:World)(K:yg)(mg:Str->Option Value)(base:Heap)(CX:CXT)(k:Nat)(C:Addr)(m:Str)(ps:LS)(sp:Sp):Prop where
 ex:∃ f fd,FnOk P w K mg base CX k f fd ps sp/\Meth K C m f/\Binds K fd ps []
 cl:Cls K C
structure MakeOk(P:Program)(w:World)(K:yg)(mg:Str->Option Value)(base:Heap)(CX:CXT)(k:Nat)(C:Addr)(x:Str)(ps:LS)(sp:Sp):Prop where
 ex:∃ f fd,FnOk P w K mg base CX k f fd ps sp/\Mk K C f/\Binds K fd ps []
 mg_:mg x=some (.ref C)
structure XMakeOk(P:Program)(w:World)(K:yg)(mg:Str->Option Value)(base:Heap)(k:Nat)(C:Addr)(x:Str)(ps:LS)(sp:Sp):Prop where
 ex:∃ f fd,FnOk P w K mg base CX0 k f fd ps sp/\XMk K C f/\Binds K fd ps []
 mg_:mg x=some (.ref C)
section
variable{X:Cx}{EK:St->XK}{k:Nat}{f C:Addr}{fd:FuncData}{ps:LS}{sp:Sp}{x m:Str}{p pos apos:Pos}{e o:Expr}{es:List Expr}{ta:TE}{t:TA}
theorem run_fnS{Q:VK}{vs:List V}(F:FnOk X.prog X.w X.K X.mg X.base (CX1 X.prog X.w) k f fd ps sp)(d:Room k X.A)(hb:Binds X.K fd ps [])(c:XOk X EK)
  (I:Inv X pins σ H s) (r:Vals vs us) (h:sp vs H Q (EK σ)):wpAny (model X.prog X.w) X.A (call (.ref f) us) (EP X pins σ Q) X.xe s:=by
 have hl:(us++[]).length=ps.length:=by rw[Yb,<- r.length];show F.len _ _ _ _ h
 have b:=hb s us I.kIn hl;rw[Yb] at b;show xQ (Xf (F.run X.A X.stack s H ⟨us,[]⟩ us vs Q (EK σ) d I.env0 b r h) fun r s' a=>?_)
 cases r with
 | error e=>show c.pass pins σ H s e s' I a
 | ok fl =>
  cases fl with
  | ret u=>show I.after a
  | _=>show False.elim a
theorem qcC(D:DefOk X.prog X.w X.K X.mg X.base (CX1 X.prog X.w) k x ps sp)(n:Room k X.A)(d:XOk X EK)(g:PA X (e::es) t)(j:Gl X x:=by rfl)(a:(x==("__debug__":Str))=false:=by decide)
  (i:starEach (e::es) X.env=(false,eval e X.env)::starEach es X.env:=by rfl) (b:(backTo pos (starEach es X.env)).any (·.1)=false:=by rfl):PE X (.Call (.Name x p) (e::es) [] pos) (qep sp EK t):=by
 obtain⟨f,fd,F,m,l,hb⟩:=D.ex;intro pins s σ H Q I h;show xF (qak I j m ?_ a);show xG (h₀:=X.base) I.ok.mod.kin l (thn (g pos pins s σ H _ I h) fun us u ⟨vs,o,c,r,q⟩=>⟨c.kIn,?_⟩) i b;show run_fnS F n hb d c r q
theorem pe_xm(D:XMakeOk X.prog X.w X.K X.mg X.base k C x ps sp)(h:Room (k+1) X.A)(c:PA X (e::es) t)(g:Gl X x:=by rfl)(a:(x==("__debug__":Str))=false:=by decide)
  (d:starEach (e::es) X.env=(false,eval e X.env)::starEach es X.env:=by rfl) (b:(backTo pos (starEach es X.env)).any (·.1)=false:=by rfl):PE X (.Call (.Name x p) (e::es) [] pos) (qdA C sp E0 t):=by
 obtain⟨f,fd,F,M,hb⟩:=D.ex;show pe_xmake M F h g D.mg_ hb qz c a d b
theorem qF(D:MethOk X.prog X.w X.K X.mg X.base CX0 k C m ps sp)(h:Room k X.A)(d:PE X o ta)(c:PA X (e::es) t)
  (b:starEach (e::es) X.env=(false,eval e X.env)::starEach es X.env:=by rfl) (a:(backTo pos (starEach es X.env)).any (·.1)=false:=by rfl)
  (i:eval (.Call (.Attribute o m apos) (e::es) [] pos) X.env=(do
   let ov <- eval o X.env
   standAt apos.atName
   let (f,first) <- holding [ov] (getMethod ov m pl)
   callWith pos f first (backTo pos (starEach (e::es) X.env)) (backToKw pos (keywordEach [] X.env))):=by rfl) :
  PE X (.Call (.Attribute o m apos) (e::es) [] pos) (qdq C m sp [] E0 ta t):=by
 obtain⟨f,fd,F,g,hb⟩:=D.ex;show pe_meth (pl:=pl) d D.cl g F h hb .nil qz c b a i
theorem qS(D:MethOk X.prog X.w X.K X.mg X.base CX0 k C m ps sp)(c:Room k X.A)(a:PE X o ta)
  (d:eval (.Call (.Attribute o m apos) [] [] pos) X.env=(do
   let ov <- eval o X.env
   standAt apos.atName
   let (f,first) <- holding [ov] (getMethod ov m pl)
   callWith pos f first (backTo pos (starEach [] X.env)) (backToKw pos (keywordEach [] X.env))):=by rfl) :
  PE X (.Call (.Attribute o m apos) [] [] pos) (qdq C m sp [] E0 ta qe6):=by
 obtain⟨f,fd,F,b,hb⟩:=D.ex;show pe_meth0 (pl:=pl) a D.cl b F c hb .nil qz d
end
section
variable{P:Program}{w:World}{K:yg}{mg:Str->Option Value}{base:Heap}
theorem Fun.ok1{st:Stmt}{h:FuncData}{g:LS}{k:Nat}(F:Fun K x qual st f h)(S:FnScope N g (qh st))(len:∀ vs H Q E,sp vs H Q E->vs.length=g.length)
  (c:∀(b:Value) (A:Around) (a:List Env) (s:Shared) (H:Hp) (vs:List V) (Q:VK) (E:XK),Room k (A.deeper (envOfC qual (qh st) s.heap.objs.size f b))->sp vs H Q E ->
   ∃ t,PSs (qeg (CX1 P w) P w K mg base N qual (qh st) f b A a s H E) (zD st) t/\t { nx:=fun _ H'=>Q .non H',rt:=Q } (start N vs) H):FnOk P w K mg base (CX1 P w) (k+1) f h g sp:=by
 obtain⟨o,od,kV,i,p,n,b,ct,m,rfl,l,d⟩:=F.ex;show qe7 l d S len fun A a s H vs Q E j e=>c b A a s H vs Q E j e
end
noncomputable abbrev Cx.tried(X:Cx)(pn:List (Addr×Obj))(E:Value->Shared->Prop):Cx:={ X with pn:=pn,xe:=E }
noncomputable abbrev Cx.hand(X:Cx)(a:Addr):Cx:={ X with A:=X.A.mark (some (.ref a)),calm:=false,xe:=fun _ _=>False }
section
variable{X:Cx}{pins pins':List (Addr×Obj)}{σ:St}{H:Hp}{s:Shared}{E:Value->Shared->Prop}{a:Addr}
theorem Inv.tried(I:Inv X pins σ H s)(E:Value->Shared->Prop):Inv (X.tried (X.pn++pins) E) [] σ H s:=
 ⟨⟨I.ok.mod,I.ok.kind,I.ok.glob,I.ok.blt,I.ok.above,I.ok.inj,I.ok.has,I.ok.cab,I.ok.hd,I.ok.frames,I.ok.stk,I.ok.exf,I.ok.bs,I.ok.bsz,I.ok.noex,I.ok.exfs,I.ok.funs,I.ok.frf⟩,I.os,I.bare,I.base,I.loc,I.cell,I.free,I.freeC,
  fun p a=>I.pin p (by have a:p∈(X.pn++pins)++[]:=a;rw[Yb] at a;show a),I.hok,I.len⟩
theorem Inv.untried(I:Inv (X.tried (X.pn++pins) E) pins' σ H s):Inv X pins σ H s:=
 ⟨⟨I.ok.mod,I.ok.kind,I.ok.glob,I.ok.blt,I.ok.above,I.ok.inj,I.ok.has,I.ok.cab,I.ok.hd,I.ok.frames,I.ok.stk,I.ok.exf,I.ok.bs,I.ok.bsz,I.ok.noex,I.ok.exfs,I.ok.funs,I.ok.frf⟩,I.os,I.bare,I.base,I.loc,I.cell,I.free,I.freeC,
  fun p a=>I.pin p (yS _ a),I.hok,I.len⟩
theorem Inv.hand(I:Inv X pins σ H s)(a:Addr):Inv (X.hand a) pins σ H s:=
 ⟨⟨I.ok.mod,I.ok.kind,I.ok.glob,I.ok.blt,I.ok.above,I.ok.inj,I.ok.has,I.ok.cab,(fun h=>nomatch h),I.ok.frames,I.ok.stk,I.ok.exf,I.ok.bs,I.ok.bsz,I.ok.noex,I.ok.exfs,I.ok.funs,I.ok.frf⟩,I.os,I.bare,I.base,I.loc,I.cell,I.free,I.freeC,I.pin,I.hok,I.len⟩
theorem Inv.unhand(hc:X.calm=true->X.A.handled=none)(I:Inv (X.hand a) pins σ H s):Inv X pins σ H s:=
 ⟨⟨I.ok.mod,I.ok.kind,I.ok.glob,I.ok.blt,I.ok.above,I.ok.inj,I.ok.has,I.ok.cab,hc,I.ok.frames,I.ok.stk,I.ok.exf,I.ok.bs,I.ok.bsz,I.ok.noex,I.ok.exfs,I.ok.funs,I.ok.frf⟩,I.os,I.bare,I.base,I.loc,I.cell,I.free,I.freeC,I.pin,I.hok,I.len⟩
structure Loose(X:Cx)(pins:List (Addr×Obj))(H:Hp)(T:Addr):Prop where
 hn:H T=none
 lo:X.s₀.heap.objs.size<=T
 nl:T≠X.env.locals
 nf:T∉X.fs
 nc:∀ x c,X.env.cells.lookup x=some c->c≠T
 np:∀ p∈X.pn++pins,p.1≠T
theorem Inv.loose(I:Inv X pins σ H s){T:Addr}(a:s.heap.objs.size<=T)(hn:H' T=none):Loose X pins H' T where
 hn:=hn
 lo:=yi I.sz a
 nl:=Yg (yj I.lt a)
 nf:=I.nofs a
 nc:=fun x c e=>by
  obtain⟨v,o,b,_⟩:=I.cell x c e;show yJ (yj (yI b) a)
 np:=fun p d=>yJ (yj (yI (I.pin p d).1) a)
theorem Inv.noted{T:Addr}(I:Inv X pins σ H s)(f:H a=some (XO a C dx))(k:Keep (frs X.stack) zs s.heap h')(hz:∀ b∈zs,b=a\/Loose X pins H b)(t:Trc h' a (.ref C) dx T fl) :
  Inv X pins σ H { s with heap:=h' }:=by
 have i:=qbK I f k (fun b hb=>(hz b hb).imp (fun e=>e) fun l=>l.hn) t;have h:∀ b,H b=none->b∉zs.filter (fun b=>decide (b≠a))->b∉zs:=fun b n z y=>z (yp.mpr ⟨y,yD fun e=>by rw[e,f] at n;cases n⟩);show I.call (g':=s.gens) (t':=s.toks) (d':=s.drawn) (ch:=zs.filter fun b=>decide (b≠a)) ⟨fun b o e n hb d=>k.keep b o e (h b n d) hb,fun b o e n hb d=>k.slot b o e (h b n d) hb,fun _ _ _ n _=>n,fun b o e d=>?_,fun _ _ e=>e,fun _ _ _ e=>e,
  fun b j e=>⟨#[],by rw[e];simp⟩⟩ i I.bare fun b hb=>?_
 .by_cases c:b=a
  .subst c;obtain⟨vs,q,_⟩:=t.ex;show⟨_,q⟩
  .have z:b∉zs:=fun y=>d (yp.mpr ⟨y,yD c⟩);by_cases g:b∈frs X.stack
   .obtain⟨m,q⟩:=k.slot b o e z g;show⟨_,q⟩
   .show⟨o,k.keep b o e z g⟩
 .obtain⟨y,q⟩:=yp.mp hb;rcases hz b y with e | l
  .show absurd e (yk q)
  .show⟨.inr l.lo,l.nl,l.nc,l.np⟩
theorem unbind_ok{i:Nat}{Q:Unit->Shared->Prop}(I:Inv X pins σ H s)(J:X.N.Nodup)(B:X.N[i]?=some x)(f:X.env.scope.names.lookup x=some .local)(hv:σ[i]?=some (some v))
  (h:∀ s',Inv X pins (σ.set i none) H s'->Q () s'):wpAny M A (unbindName X.env x) Q E s:=by
 obtain⟨m,L,hl⟩:=id I.loc;obtain⟨u,ru,P⟩:=hl i x v B hv (.inl f)
 have K:m x=some u:=by
  rcases P with⟨_,e⟩ | ⟨k,_⟩
  .show e
  .have k':X.env.scope.names.lookup x=some .cell\/X.env.scope.names.lookup x=some .free:=k;rw[f] at k';rcases k' with z | z<;>cases z
 have r:(X.env.scope.kind==.class||(X.env.scope.kind==.module&&X.env.locals != X.env.globals))=false:=by rw[I.ok.kind];rfl
 show wpAny_unbindName_local f L K r fun h' u' F g=>?_;have a:∀ b o,X.s₀.heap.get? b=some o->b≠X.env.locals:=fun b o e=>yJ (yj (yI e) I.ok.above);show h _ ⟨I.ok,I.os,I.bare,⟨fun b o e n hb f=>?_,fun b o e n hb f=>?_,I.base.free,fun b o e f=>?_,I.base.tups,I.base.frzs,I.base.tbls⟩,⟨_,F,fun j y Z l t G=>?_⟩,fun y c e=>?_,I.free,I.freeC,fun p O=>?_,fun b U e=>?_,by simpa using I.len⟩
 .show(g.2 b (a b o e)).trans (I.base.keep b o e n hb f)
 .obtain⟨Y,l⟩:=I.base.slot b o e n hb f;show⟨Y,(g.2 b (a b o e)).trans l⟩
 .obtain⟨T,l⟩:=I.base.there b o e f;show⟨T,(g.2 b (a b o e)).trans l⟩
 .by_cases C:j=i
  .subst C;have D:j<σ.length:=by rw[I.len];show(yc.mp B).1
   rw[Xe D] at t;cases t
  .rw [xr (Yd C)] at t;obtain⟨w,W,q⟩:=hl j y Z l t G;show⟨w,W,?_⟩;rcases q with⟨k,e⟩ | ⟨k,c,e,z⟩
   .have S:y≠x:=fun e=>C (qbE J l (e ▸ B));show .inl ⟨k,by simp[S,e]⟩
   .show .inr ⟨k,c,e,z.sameBut g (I.cne y c e)⟩
 .obtain⟨w,z⟩:=I.cell y c e;show⟨w,z.sameBut g (I.cne y c e)⟩
 .obtain⟨e,n,ne,R,d⟩:=I.pin p O;show⟨(g.2 p.1 ne).trans e,n,ne,R,d⟩
 .show(I.hok b U e).stay (fun c w hc q=>(g.2 c ?_).trans q) (fun _ q=>q) fun _ _ q=>q;rintro rfl;rcases hc with rfl | hc
  .rw [I.free] at e;cases e
  .rw [I.free] at hc;cases hc
end
structure Held(X:Cx)(pins:List (Addr×Obj))(H:Hp)(h:Heap)(a C:Addr)(dx:Option Addr):Prop where
 at_:H a=some (XO a C dx)
 tr:∃ T,Trc h a (.ref C) dx T .none/\Loose X pins H T
def PH(X:Cx)(a C:Addr)(dx:Option Addr)(b:List ExceptHandler)(c:TS):Prop:=
 ∀(pins:List (Addr×Obj)) (s:Shared) (σ:St) (H:Hp) (D:Ends),Inv X pins σ H s->Held X pins H s.heap a C dx->c D σ H->wpAny (model X.prog X.w) X.A (handleBy (.ref a) X.env b) (SP X pins D) X.xe s
def thNil:TS:=fun _ _ _=>False
def thAs(K:yg)(a C D:Addr)(i:Nat)(d rest:TS):TS:=fun Z σ H=>∃ b,PySem.W.mroIn K C (.ref D)=some b/\XAt K D/\XAt K C /\
 if b=true then d { nx:=fun c H'=>Z.nx (c.set i none) H',rt:=Z.rt,bk:=fun c H'=>Z.bk (c.set i none) H',ct:=fun c H'=>Z.ct (c.set i none) H' } (σ.set i (some (.ref a))) H else rest Z σ H
theorem xmatch{K:yg}{o:Obj}{Q:Bool->Shared->Prop}(X:K.In s.heap)(m:s.heap.get? a=some o)(hc:o.cls=.ref C)(d:XAt K D)(hb:PySem.W.mroIn K C (.ref D)=some b)(q:Q b s) :
  wpAny M A (excMatches (.ref a) (.ref D)) Q E s:=by
 obtain⟨y,B,N,bs,i,h,sn,sub,ab,j,n,t,u,v,w,x,e,l⟩:=qcX X d.xc;have c:(Value.ref D::i).contains (.type "BaseException")=true:=by rw[Yv,qaz l (by simp),ko]
 have f:=tc_notTuple;have L:=xy (M:=M) X hb;obtain⟨r,g,p,tk,z⟩:=s;unfold excMatches
 repeat (first | with_reducible show YJ e ?_ | (with_reducible show YJ m ?_;rw[hc]) | (with_reducible show xz e ?_;rw[c]) | with_reducible show L.at ?_ | wp_step)
 cases b<;>(wp_walk;show q)
section
variable{X:Cx}{a C D:Addr}{dx:Option Addr}{c n:Str}{cp pos:Pos}{b0:Stmt}{body:List Stmt}{rest:List ExceptHandler}{tb tr:TS}{i:Nat}{K:yg}
theorem ph_nil:PH X a C dx [] thNil:=fun _ _ _ _ _ _ _ h=>h.elim
theorem suite_as{R:Result->Shared->Prop}{e:Value}
  (h:wpAny (model prog w) A (setFlight e none) (fun _ a=>wpAny (model prog w) A (bindName env n e) (fun _ b=>wpAny (model prog w) A (execs (b0::body) env) (fun f c=>R (.ok f) c) (fun _ _=>False) b) (fun _ _=>False) a) (fun _ _=>False) s) :
  codeAny (model prog w) A (.handlers e [.ExceptHandler none (some n) (b0::body) pos] env) R s:=by
 show kZ ?_;show wpAny _ A (do return Fin.done (<- (handleWith e env [.ExceptHandler none (some n) (b0::body) pos]).onRaise (fun x=>do noteFrame x env;theTreesLotGoes x))) _ _ s;show yr (wpAny_noted ?_);unfold handleWith;show yr (XD (yr (YE h (fun _ a h1=>yr (YE h1 (fun _ b d=>yr (X4 (YE d (fun f c g=>yw (yw g)) fun _ _ z=>z.elim))) fun _ _ z=>z.elim)) fun _ _ z=>z.elim)))
theorem ph_as(W:X.K=K)(y:X.N.Nodup)(x:X.N[i]?=some n)(m:X.env.scope.names.lookup n=some .local)(hg:Gl X c)(hm:X.mg c=some (.ref D))(hb:PSs (X.hand a) (b0::body) tb)(hr:PH X a C dx rest tr)
  (E:(c==("__debug__":Str))=false:=by decide):PH X a C dx (.ExceptHandler (some (.Name c cp)) (some n) (b0::body) pos::rest) (thAs K a C D i tb tr):=by
 subst W;intro pins s σ H Z I hl h;obtain⟨b,B,xd,xc,q⟩:=h;obtain⟨vs,Y⟩:=(show IsX H a C dx from .inr hl.at_).get I.hok;show wpAny_handleBy_cons (codeAny_handlers_test ?_) (by intro q;cases q);have U:=I.hand a;show qak (X:=X.hand a) U hg hm (xmatch I.kIn Y rfl xd B ?_) E
 cases b with
 | false=>show hr pins s σ H Z I hl q
 | true =>
  obtain⟨T,t,lo⟩:=hl.tr;show suite_as (qbJ t fun h1 t1 M aa=>?_);have kk:Keep (frs X.stack) [T] s.heap h1:=⟨fun b o e z _=>M b o (by simpa using z) e,fun b o e z _=>⟨o.slots,M b o (by simpa using z) e⟩⟩;have P:=I.noted hl.at_ kk (fun b hb=>.inr (by rw[yv.mp hb];show lo)) t1;have R:=P.hand a;show wpAny_bindName (qaU (X:=X.hand a) R y x (.inl m) (v:=.ref a) rfl (fun s2 S=>?_) (.inr m));have q':tb { nx:=fun d H'=>Z.nx (d.set i none) H',rt:=Z.rt,bk:=fun d H'=>Z.bk (d.set i none) H',ct:=fun d H'=>Z.ct (d.set i none) H' } (σ.set i (some (.ref a))) H:=q;show thn (hb pins s2 _ H _ S q') fun f O p=>?_
  have j:∀{d:St} {H':Hp} {Q:Unit->Shared->Prop},Inv (X.hand a) pins d H' O->(∀ l,Inv X pins (d.set i none) H' l->Q () l)->wpAny (model X.prog X.w) X.A (do bindName X.env n .none;unbindBehindTheSuite X.env n pos) Q X.xe O:=fun{d H' Q} J k=>by
   have G:=Inv.unhand I.ok.hd J;have F:i<d.length:=by rw[G.len];show(yc.mp x).1
   show yr (wpAny_bindName (qaU G y x (.inl m) (v:=.non) rfl (fun l g=>?_) (.inr m)));show wpAny_onRaise (unbind_ok g y x m (v:=.non) (by rw[Xe F]) fun s5 L=>k s5 ?_);rw[List.set_set] at L;show L
  cases f with
  | next=>obtain⟨d,H',J,z⟩:=p;show j J fun l g=>⟨_,H',g,z⟩
  | brk=>obtain⟨d,H',J,z⟩:=p;show j J fun l g=>⟨_,H',g,z⟩
  | cont=>obtain⟨d,H',J,z⟩:=p;show j J fun l g=>⟨_,H',g,z⟩
  | ret u=>obtain⟨v,d,H',J,r,z⟩:=p;show j J fun l g=>⟨v,_,H',g,r,z⟩
end
def tTry(X:Cx)(b:List Stmt)(g:List ExceptHandler)(te:TS):TS:=fun D σ H=>∃(d:St->XK) (e:TS),(∀ pn xe,XOk (X.tried pn xe) d->PSs (X.tried pn xe) b e) /\
 e { nx:=te D,rt:=D.rt,bk:=D.bk,ct:=D.ct } σ H/\∀(a C:Addr) (dx:Option Addr) (c:St) (H':Hp),d c (.ref C) dx H'->H' a=some (XO a C dx)->∃ f,PH X a C dx g f/\f D c H'
section
variable{X:Cx}{body orelse:List Stmt}{h0:ExceptHandler}{hs:List ExceptHandler}{pos:Pos}{te:TS}
theorem ps_try(hc:X.calm=true)(j:X.stack=X.env::X.outer)(y:X.env.frame=some X.env.locals)(ho:PSs X orelse te):PS X (.Try body (h0::hs) orelse [] pos) (tTry X body (h0::hs) te):=by
 intro pins s σ H D I h;obtain⟨R,tb,hb,q,hh⟩:=h;have E:X.A.frames=some (X.env::X.outer):=by rw[<- j];show I.ok.frames
 let m:Value->Shared->Prop:=fun e d=>∃(a C:Addr) (dx:Option Addr) (c:St) (H':Hp),e=.ref a/\Inv X pins c H' d/\H' a=some (XO a C dx)/\R c (.ref C) dx H' /\
  ((∃ T,Trc d.heap a (.ref C) dx T .none/\Loose X pins H' T)\/∃ a0,d.heap.get? a=some ⟨.ref C,dx,.fields (xfs a0),#[]⟩)
 have Y:XOk (X.tried (X.pn++pins) m) R:=by
  show⟨fun pins' c L d e s2 J l=>?_,fun pins' c L d a C dx J e z=>?_,hc⟩
  .obtain⟨a,C,dx,T,H',rfl,P,N,un,O,n,t,hT,M,z⟩:=l;have p:=J.call' (s':=s2) (H':=H') (ch:=[]) P un O N (fun b z=>absurd z (by simp));have G:=Inv.untried J;show⟨a,C,dx,c,H',rfl,Inv.untried p,n,z,.inl ⟨T,t,G.loose hT M⟩⟩
  .have G:=Inv.untried J;obtain⟨⟨a0,l⟩,_⟩:=(show ObjOk _ _ L d.heap a (XN a C dx) from G.hok a _ e);have p:Inv X pins c (upd L a (XO a C dx)) d:=G.write (x:=a) (e:=a) (o:=XO a C dx) (h':=d.heap) (t':=d.toks) (by rw[e];show YO) (.inl rfl) (fun _ _ _ q=>q) ⟨_,l⟩ (XO.ok l);show⟨a,C,dx,c,_,rfl,p,qb,z,.inr ⟨a0,l⟩⟩
 have B:=hb (X.pn++pins) m Y [] s σ H _ (I.tried m) q;show wpAny_Try_except (YE B (fun f d K=>?_) fun e d he=>?_)
 .cases f with
  | next=>obtain⟨c,H',J,z⟩:=K;show ho pins d c H' D (Inv.untried J) z
  | brk=>obtain⟨c,H',J,z⟩:=K;show⟨c,H',Inv.untried J,z⟩
  | cont=>obtain⟨c,H',J,z⟩:=K;show⟨c,H',Inv.untried J,z⟩
  | ret u=>obtain⟨v,c,H',J,r,z⟩:=K;show⟨v,c,H',Inv.untried J,r,z⟩
 .obtain⟨a,C,dx,c,H',rfl,J,n,z,tt⟩:=he;obtain⟨th,hp,hq⟩:=hh a C dx c H' z n;have F:d.heap.FunFrames X.base (X.env::X.outer):=by rw[<- j];show J.stack
  have go:∀(h':Heap) (i:Addr) (zs:LQ),d.heap.objs.size<=i->Trc h' a (.ref C) dx i (rawInt X.env.locals)->Keep (frs (X.env::X.outer)) zs d.heap h'->(∀ b∈zs,b=a\/Loose X pins H' b) ->
    wpAny (model X.prog X.w) X.A (setFlight (.ref a) none) (fun _ s3=>wpAny (model X.prog X.w) X.A (handleBy (.ref a) X.env (h0::hs)) (SP X pins D) X.xe s3) X.xe { d with heap:=h' }:=fun h' i zs g t' k hz=>by
   have lo:=J.loose g (J.hok.fresh g);have p:=J.noted n (by rw[j];show k) hz t';show qbJ (s:={ d with heap:=h' }) t' fun Z U S aa=>?_;have kk:Keep (frs X.stack) [i] h' Z:=⟨fun b o e z _=>S b o (by simpa using z) e,fun b o e z _=>⟨o.slots,S b o (by simpa using z) e⟩⟩;have W:=p.noted n kk (fun b hb=>.inr (by rw[yv.mp hb];show lo)) U;show hp pins _ c H' D W ⟨n,i,U,lo⟩ hq
  rcases tt with⟨T,t,lo⟩ | ⟨a0,l⟩
  .show qc0 (base:=X.base) E F y t fun h' i g t' k=>go h' i _ g t' k fun b hb=>?_;simp only[yz,yM,Yt] at hb;rcases hb with rfl | rfl
   .show .inl rfl
   .show .inr lo
  .show qch (base:=X.base) E F y l rfl rfl fun h' i g t' k=>go h' i _ g t' k fun b hb=>?_;show .inl (yv.mp hb)
end
def TyX(K:yg)(H:Hp)(x:V)(t:Value):Prop:=TyOf K H x t\/∃ a C dx,x=.ref a/\t=.ref C/\IsX H a C dx/\XAt K C/\∀ d,dx=some d->∃ fs,H d=some (.xd fs)
theorem TyX.kit{x:V}(I:Inv X pins σ H s)(e:RelV x u)(ty:TyX X.K H x t):∃ P:Heap->Prop,PySem.W.KitX X.K u t P/\P s.heap/\u≠.builtin "__main__.__loader__#opaque":=by
 rcases ty with ty | ⟨a,C,dx,rfl,rfl,hx,c,hd⟩
 .show ty.kit I e
 .cases e;obtain⟨vs,b⟩:=hx.get I.hok
  cases dx with
  | none=>show⟨_,qcY (od:=none) c,⟨b,rfl,rfl,YO⟩,fun z=>nomatch z⟩
  | some d =>
   obtain⟨fs,f⟩:=hd d rfl;obtain⟨od,g,h1,_⟩:=qek I f;show⟨_,qcY (od:=some od) c,⟨b,rfl,rfl,h1⟩,fun z=>nomatch z⟩
def qfh(K:yg):List V->Hp->VK->Prop:=fun xs H Q=>∃ x y t c b,xs=[x,y]/\TyX K H x t/\qcf y=some c/\PySem.W.kitOne K t c=some b/\Q (.bl b) H
def qeq(K:yg):List V->Hp->VK->Prop:=fun xs H Q=>∃ x p ys t a b,xs=[x,.ref p]/\TyX K H x t/\H p=some (.tup ys)/\ys.map qcf=a.map some/\PySem.W.kitAny K t a=some b/\Q (.bl b) H
section
variable{X:Cx}{K:yg}
theorem qaA(a:X.K=K):zL X (.builtin "isinstance") (qfh K):=by
 subst a;intro pins s σ H xs us Q I r h;obtain⟨x,y,t,c,b,rfl,ty,d,hb,q⟩:=h;obtain⟨u,v,rfl,f,g⟩:=qd6 r;have e:=qbx d g;subst e;obtain⟨P,Z,p,ne⟩:=ty.kit I f;show PySem.W.kia_one Z I.kIn p hb ne fun tk=>⟨.bl b,H,I.tok tk,rfl,q⟩
theorem qdB(i:X.K=K):zL X (.builtin "isinstance") (qeq K):=by
 subst i;intro pins s σ H xs us Q I r h;obtain⟨x,p,ys,t,B,b,rfl,ty,m,y,hb,q⟩:=h;obtain⟨u,v,rfl,A,f⟩:=qd6 r;cases f;obtain⟨P,Z,z,ne⟩:=ty.kit I A;obtain⟨_,its,f,o,l,hc,n,j⟩:=(show ObjOk X.prog X.w H s.heap p (.tup ys) from I.hok p _ m);have e:=qbb y f;subst e;obtain⟨c,C,g,D⟩:=o;have a:c=.type "tuple":=hc;have d:g=.seq its.toArray n:=j;subst a d;show PySem.W.kia_tup Z I.kIn z l hb ne fun tk=>⟨.bl b,H,I.tok tk,rfl,q⟩
end
mutual
inductive EqD(K:yg)(H:Hp):Nat->V->V->Bool->Prop
 | flat {n:Nat} {x y:V} (fx:qai x=true) (fy:qai y=true):EqD K H n x y (eqV x y)
 | self {n:Nat} {a:Addr}:EqD K H n (.ref a) (.ref a) true
 | deep {n:Nat} {a b:Addr} {k:Bool} (h:EqT K H n a b k) (ne:a≠b):EqD K H n (.ref a) (.ref b) k
inductive EqT(K:yg)(H:Hp):Nat->Addr->Addr->Bool->Prop
 | lst {n:Nat} {a b:Addr} {xs ys:List V} {e:Nat->Bool} (ha:SqL K H a xs) (hb:SqL K H b ys) (hl:xs.length=ys.length) (he:∀ j x y,xs[j]?=some x->ys[j]?=some y->EqD K H n x y (e j)):EqT K H (n+1) a b ((List.range xs.length).all e)
 | lstL {n:Nat} {a b:Addr} {xs ys:List V} (ha:SqL K H a xs) (hb:SqL K H b ys) (hl:xs.length≠ys.length):EqT K H (n+1) a b false
 | tup {n:Nat} {a b:Addr} {xs ys:List V} {e:Nat->Bool} (ha:SqT K H a xs) (hb:SqT K H b ys) (he:∀ j x y,xs[j]?=some x->ys[j]?=some y->EqD K H n x y (e j)):EqT K H (n+1) a b ((List.range (min xs.length ys.length)).all e&&xs.length==ys.length)
 | lt {n:Nat} {a b:Addr} {xs ys:List V} (ha:SqL K H a xs) (hb:SqT K H b ys):EqT K H (n+1) a b false
 | tl {n:Nat} {a b:Addr} {xs ys:List V} (ha:SqT K H a xs) (hb:SqL K H b ys):EqT K H (n+1) a b false
end
theorem jz:∀{xs:List V} {us:List Value} {j:Nat} {u:Value},Vals xs us->us[j]?=some u->∃ x,xs[j]?=some x/\RelV x u
 | _,_,_,_,.nil,e=>by simp at e
 | _,_,0,_,.cons r _,e=>by simp at e;subst e;show⟨_,rfl,r⟩
 | _,_,j+1,u,.cons _ t,e=>by
  obtain⟨x,h1,a⟩:=jz (j:=j) (u:=u) t (by simpa using e);show⟨x,by simpa using h1,a⟩
section
variable{X:Cx}{pins:List (Addr×Obj)}{σ:St}{H:Hp}{s:Shared}
theorem qcD(I:Inv X pins σ H s):∀ n,(∀(A:Around) (x y:V) (k:Bool) (u v:Value),EqD X.K H n x y k->RelV x u->RelV y v->A.units+n<cLine->SeqAt.EqAt A s u v k)/\(∀(A:Around) (a b:Addr) (k:Bool),EqT X.K H n a b k->A.units+n<cLine->SeqAt.RcAt A s (.ref a) (.ref b) k):=by
 intro n
 induction n with
 | zero =>
  have F:∀(A:Around) (a b:Addr) (k:Bool),EqT X.K H 0 a b k->A.units+0<cLine->SeqAt.RcAt A s (.ref a) (.ref b) k:=fun A a b k h=>by cases h
  show⟨fun A x y k u v h g i z=>?_,F⟩
  cases h with
  | flat fx fy=>show qdu g i fx fy
  | self=>cases g;cases i;show ke _
  | deep h ne=>cases h
 | succ n ih =>
  have D:∀(A:Around) (a b:Addr) (k:Bool),EqT X.K H (n+1) a b k->A.units+(n+1)<cLine->SeqAt.RcAt A s (.ref a) (.ref b) k:=fun A a b k h z=>by
   have f:A.units<cLine:=by lk
   have o:A.in1.units+n<cLine:=by show A.units+1+n<cLine;lk
   cases h with
   | @lst _ _ _ xs ys e ha hb hl he =>
    obtain⟨its,r,pl,hz⟩:=I.list ha;obtain⟨c,m,d,l⟩:=I.list hb;have p:xs.length=its.toArray.size:=by rw[yA];show r.length
    have q:ys.length=c.toArray.size:=by rw[yA];show m.length
    rw[p];show SeqAt.RcAt.lists pl.isList d.isList (by rw[<- p,<- q,hl]) f fun j h1 E=>?_;have t:its[j]?=some its.toArray[j]:=by simp
    have w:c[j]?=some c.toArray[j]:=by simp
    obtain⟨x,B,g⟩:=jz r t;obtain⟨y,C,i⟩:=jz m w;show ih.1 A.in1 x y (e j) _ _ (he j x y B C) g i o
   | @lstL _ _ _ xs ys ha hb hl =>
    obtain⟨its,r,pl,hz⟩:=I.list ha;obtain⟨c,m,d,l⟩:=I.list hb;show SeqAt.RcAt.lists_lengths pl.isList d.isList ?_ f;rw[yA,yA,<- r.length,<- m.length];simp[hl]
   | @tup _ _ _ xs ys e ha hb he =>
    obtain⟨its,r,pl,hz⟩:=I.tuple ha;obtain⟨c,m,d,l⟩:=I.tuple hb;have p:xs.length=its.toArray.size:=by rw[yA];show r.length
    have q:ys.length=c.toArray.size:=by rw[yA];show m.length
    rw[p,q];show SeqAt.RcAt.tuples pl d f fun j h1 E=>?_;have t:its[j]?=some its.toArray[j]:=by simp
    have w:c[j]?=some c.toArray[j]:=by simp
    obtain⟨x,B,g⟩:=jz r t;obtain⟨y,C,i⟩:=jz m w;show ih.1 A.in1 x y (e j) _ _ (he j x y B C) g i o
   | lt ha hb =>
    obtain⟨its,r,pl,hz⟩:=I.list ha;obtain⟨c,m,d,l⟩:=I.tuple hb;show SeqAt.RcAt.list_tuple pl.isList d f
   | tl ha hb =>
    obtain⟨its,r,pl,hz⟩:=I.tuple ha;obtain⟨c,m,d,l⟩:=I.list hb;show SeqAt.RcAt.tuple_list pl d.isList f
  show⟨fun A x y k u v h g i z=>?_,D⟩
  cases h with
  | flat fx fy=>show qdu g i fx fy
  | self=>cases g;cases i;show ke _
  | deep h ne=>cases g;cases i;show SeqAt.EqAt.of_refs ne (D A _ _ k h z)
theorem ne_refs(I:Inv X pins σ H s){n:Nat}{A:Around}{a b:Addr}{k:Bool}(h:EqT X.K H n a b k)(z:A.units+n<cLine):SeqAt.RcNeAt A s (.ref a) (.ref b) (!k):=by
 cases n with
 | zero=>cases h
 | succ n =>
  have v:=qcD I n;have f:A.units<cLine:=by lk
  have l:A.in1.units+n<cLine:=by show A.units+1+n<cLine;lk
  cases h with
  | @lst _ _ _ xs ys e ha hb hl he =>
   obtain⟨its,r,pl,hz⟩:=I.list ha;obtain⟨c,i,d,g⟩:=I.list hb;have m:xs.length=its.toArray.size:=by rw[yA];show r.length
   have o:ys.length=c.toArray.size:=by rw[yA];show i.length
   rw[m];show SeqAt.RcNeAt.lists pl.isList d.isList (by rw[<- m,<- o,hl]) f fun j h1 w=>?_;obtain⟨x,p,t⟩:=jz r (show its[j]?=some its.toArray[j] by simp);obtain⟨y,q,u⟩:=jz i (show c[j]?=some c.toArray[j] by simp);show v.1 A.in1 x y (e j) _ _ (he j x y p q) t u l
  | @lstL _ _ _ xs ys ha hb hl =>
   obtain⟨its,r,pl,hz⟩:=I.list ha;obtain⟨c,i,d,g⟩:=I.list hb;show SeqAt.RcNeAt.lists_lengths pl.isList d.isList ?_ f;rw[yA,yA,<- r.length,<- i.length];simp[hl]
  | @tup _ _ _ xs ys e ha hb he =>
   obtain⟨its,r,pl,hz⟩:=I.tuple ha;obtain⟨c,i,d,g⟩:=I.tuple hb;have m:xs.length=its.toArray.size:=by rw[yA];show r.length
   have o:ys.length=c.toArray.size:=by rw[yA];show i.length
   rw[m,o];show SeqAt.RcNeAt.tuples pl d f fun j h1 w=>?_;obtain⟨x,p,t⟩:=jz r (show its[j]?=some its.toArray[j] by simp);obtain⟨y,q,u⟩:=jz i (show c[j]?=some c.toArray[j] by simp);show v.1 A.in1 x y (e j) _ _ (he j x y p q) t u l
  | lt ha hb =>
   obtain⟨its,r,pl,hz⟩:=I.list ha;obtain⟨c,i,d,g⟩:=I.tuple hb;show SeqAt.RcNeAt.list_tuple pl.isList d f
  | tl ha hb =>
   obtain⟨its,r,pl,hz⟩:=I.tuple ha;obtain⟨c,i,d,g⟩:=I.list hb;show SeqAt.RcNeAt.tuple_list pl d.isList f
theorem qer{A:Around}{x y:V}{u v:Value}(e:RelV x u)(c:RelV y v)(f:qai x=true)(d:qai y=true):SeqAt.RcAt A s u v (eqV x y)/\SeqAt.RcNeAt A s u v (!eqV x y):=by
 cases x with
 | non =>
  cases e
  cases y with
  | non=>cases c;show⟨SeqAt.RcAt.none_none,SeqAt.RcNeAt.none_none⟩
  | bl b=>cases c;show⟨SeqAt.RcAt.none_bool b,SeqAt.RcNeAt.none_bool b⟩
  | int b=>obtain⟨t,rfl⟩:=c;show⟨SeqAt.RcAt.none_int b t,SeqAt.RcNeAt.none_int b t⟩
  | str b=>obtain⟨t,rfl⟩:=c;show⟨SeqAt.RcAt.none_str b t,SeqAt.RcNeAt.none_str b t⟩
  | _=>cases d
 | bl a =>
  cases e
  cases y with
  | non=>cases c;show⟨SeqAt.RcAt.bool_none a,SeqAt.RcNeAt.bool_none a⟩
  | bl b=>cases c;show⟨SeqAt.RcAt.bool_bool a b,SeqAt.RcNeAt.bool_bool a b⟩
  | int b=>obtain⟨t,rfl⟩:=c;show⟨SeqAt.RcAt.bool_int a b t,SeqAt.RcNeAt.bool_int a b t⟩
  | str b=>obtain⟨t,rfl⟩:=c;show⟨SeqAt.RcAt.bool_str a b t,SeqAt.RcNeAt.bool_str a b t⟩
  | _=>cases d
 | int a =>
  obtain⟨t',rfl⟩:=e
  cases y with
  | non=>cases c;show⟨SeqAt.RcAt.int_none a t',SeqAt.RcNeAt.int_none a t'⟩
  | bl b=>cases c;show⟨SeqAt.RcAt.int_bool a t' b,SeqAt.RcNeAt.int_bool a t' b⟩
  | int b=>obtain⟨t,rfl⟩:=c;show⟨SeqAt.RcAt.int_int a t' b t,SeqAt.RcNeAt.int_int a t' b t⟩
  | str b=>obtain⟨t,rfl⟩:=c;show⟨SeqAt.RcAt.int_str a t' b t,SeqAt.RcNeAt.int_str a t' b t⟩
  | _=>cases d
 | str a =>
  obtain⟨t',rfl⟩:=e
  cases y with
  | non=>cases c;show⟨SeqAt.RcAt.str_none a t',SeqAt.RcNeAt.str_none a t'⟩
  | bl b=>cases c;show⟨SeqAt.RcAt.str_bool a t' b,SeqAt.RcNeAt.str_bool a t' b⟩
  | int b=>obtain⟨t,rfl⟩:=c;show⟨SeqAt.RcAt.str_int a t' b t,SeqAt.RcNeAt.str_int a t' b t⟩
  | str b=>obtain⟨t,rfl⟩:=c;show⟨SeqAt.RcAt.str_str a t' b t,SeqAt.RcNeAt.str_str a t' b t⟩
  | _=>cases d
 | _=>cases f
end
def qeL(K:yg)(c:Bool):R2:=fun x y H Q=>(qai x=true/\qai y=true/\Q (.bl (if c then !eqV x y else eqV x y)) H) \/
 (∃ a b k n,x=.ref a/\y=.ref b/\n<=60/\EqT K H n a b k/\Q (.bl (if c then !k else k)) H) \/
 (∃ a kvs,x=.ref a/\y=.ref a/\H a=some (.dK kvs)/\Q (.bl (!c)) H)
theorem qbc{b:Type}[DecidableEq b]:∀{a:List (b×Value)} {k:b} {v:Value},(a.map (·.1)).Nodup->(k,v)∈a->valueAt a k=some v
 | [],_,_,_,h=>by cases h
 | (k',v')::r,k,v,hn,h=>by
  obtain⟨h1,c⟩:=yo.mp (show(k'::r.map (·.1)).Nodup from hn);unfold valueAt;rw[xO];by_cases e:k'=k
  .subst e;simp only[decide_true];rcases yz.mp h with z | z
   .cases z;rfl
   .show absurd (YH.mpr ⟨(k',v),z,rfl⟩) h1
  .simp only[e,Kd];rcases yz.mp h with z | z
   .cases z;show absurd rfl e
   .show qbc c z
theorem qcE{A:Around}{s:Shared}{c:Type}[DecidableEq c](a:List (c×Value))(d:(a.map (·.1)).Nodup):∀ f:List (c×Value),(∀ p∈f,p∈a)->PySem.W.KeqHits A s a f true
 | [],_=>.nil
 | (k,v)::r,h=>by
  have hv:valueAt a k=some v:=qbc d (h (k,v) yY);show .hit (e:=true) (b:=true) hv (ke v) (qcE a d r fun p g=>h p (yN _ g))
section
variable{X:Cx}{K:yg}
theorem k_eqU(m:X.K=K)(p:X.A.units+100<cLine):OpR X (compareOp .Eq) (qeL K false):=by
 subst m;intro pins s σ H x y u v Q I c f h;rcases h with⟨j,l,q⟩ | ⟨a,b,k,n,rfl,rfl,o,e,q⟩ | ⟨a,kvs,rfl,rfl,i,q⟩
 .show(qer c f j l).1 _ _ _ _ ⟨.bl _,H,I,rfl,q⟩
 .cases c;cases f;show(qcD I n).2 X.A a b k e (by lk) _ _ _ _ ⟨.bl _,H,I,rfl,q⟩
 .cases c;cases f;obtain⟨_,g,vs,r,d⟩:=(show ObjOk X.prog X.w H s.heap a (.dK kvs) from I.hok a _ i);obtain⟨_,_,_,_,_,_,_,_,nd⟩:=id d;show PySem.W.keq_eq g g d d (by lk) (fun _=>qcE vs nd vs fun _ h=>h) ?_;rw[xE];show⟨.bl true,H,I,rfl,q⟩
theorem qaB(m:X.K=K)(p:X.A.units+100<cLine):OpR X (compareOp .NotEq) (qeL K true):=by
 subst m;intro pins s σ H x y u v Q I c f h;rcases h with⟨j,l,q⟩ | ⟨a,b,k,n,rfl,rfl,o,e,q⟩ | ⟨a,kvs,rfl,rfl,i,q⟩
 .show(qer c f j l).2 _ _ _ _ ⟨.bl _,H,I,rfl,q⟩
 .cases c;cases f;show ne_refs I e (by lk) _ _ _ _ ⟨.bl _,H,I,rfl,q⟩
 .cases c;cases f;obtain⟨_,g,vs,r,d⟩:=(show ObjOk X.prog X.w H s.heap a (.dK kvs) from I.hok a _ i);obtain⟨_,_,_,_,_,_,_,_,nd⟩:=id d;show PySem.W.keq_ne g g d d (by lk) (fun _=>qcE vs nd vs fun _ h=>h) ?_;rw[xE];show⟨.bl false,H,I,rfl,q⟩
end
section
variable{X:Cx}{K:yg}
def qfx(K:yg):R2:=fun x y H Q=>rIx K x y H Q\/∃ a v,x=.ref a/\DGet H a y (some v)/\Q v H
theorem qu(f:X.K=K)(m:X.A.units+100<cLine):IxR X (qfx K):=by
 subst f;show IxR.or ix_seq ?_;intro d c pins s σ H x y v u Q I j l h i;obtain⟨a,z,rfl,g,q⟩:=h;cases j;show tail_any (dict_typeIs I g) PySem.F.slot_dict_getitem.lookup (d_getItem (by lk) I g l fun o n e b=>⟨z,H,e,b,q⟩) i
def rSetU:qe3:=fun o i v H Q=>rSetL o i v H Q\/∃ a H',o=.ref a/\DPut H a i v H'/\Q H'
theorem jJ(l:X.A.units+100<cLine):qfy X rSetU:=by
 intro pins s σ H o i v j f u Q I c b d h;rcases h with h | ⟨a,H',rfl,g,q⟩
 .show set_list pins s σ H o i v j f u Q I c b d h
 .cases c;show d_setItem (by lk) I g b d fun s' e=>⟨H',e,q⟩
def qdC(K:yg)(b:Bool):R2:=fun x y H Q=>rIn K b x y H Q\/(∃ a o,y=.ref a/\DGet H a x o/\Q (.bl (if b then !o.isSome else o.isSome)) H) \/
 (∃ p xs e n,y=.ref p/\SqL K H p xs/\n<=60/\(∀ z∈xs,EqD K H n z x (e z))/\Q (.bl (if b then !xs.any e else xs.any e)) H)
theorem qes{pins:List (Addr×Obj)}{σ:St}{H:Hp}{s:Shared}{xs:List V}{its:List Value}{x:V}{u:Value}{e:V->Bool}{n:Nat}{A:Around}(I:Inv X pins σ H s)(r:Vals xs its)(p:RelV x u)(o:A.units+n<cLine)(m:∀ z∈xs,EqD X.K H n z x (e z)) :
  ∃ g:Value->Bool,(∀ w,w∈its.toArray->SeqAt.EqAt A s w u (g w))/\its.toArray.any g=xs.any e:=by
 classical
 show⟨fun w=>decide (∃ z∈xs,RelV z w/\e z=true),fun w hw=>?_,?_⟩
 .have d:w∈its:=by simpa using hw
  obtain⟨j,c⟩:=Xo.mp d;obtain⟨z,hz,a⟩:=jz r c;have i:=ye hz
  have eq:decide (∃ z∈xs,RelV z w/\e z=true)=e z:=by
   cases q:e z with
   | true=>show yD ⟨z,i,a,q⟩
   | false =>
    show yl fun⟨t,_,f,l⟩=>?_;rw[RelV.inj f a,q] at l;cases l
  show SeqAt.EqAt A s w u (decide (∃ z∈xs,RelV z w/\e z=true));rw[eq];show(qcD I n).1 A z x (e z) w u (m z i) a p o
 .rw [YQ,xY];constructor
  .intro h;have h':its.any (fun w=>decide (∃ z∈xs,RelV z w/\e z=true))=true:=by simpa using h
   obtain⟨w,_,q⟩:=xY.mp h';obtain⟨z,hz,_,b⟩:=yk q;show⟨z,hz,b⟩
  .rintro ⟨z,hz,b⟩;obtain⟨j,c⟩:=Xo.mp hz;obtain⟨w,hw,a⟩:=r.get c;have:its.any (fun w=>decide (∃ z∈xs,RelV z w/\e z=true))=true:=xY.mpr ⟨w,ye hw,yD ⟨z,hz,a,b⟩⟩;simpa using this
theorem zt(j:X.K=K)(l:X.A.units+100<cLine):OpR X (compareOp .In) (qdC K false):=by
 subst j;intro pins s σ H x y u v Q I b c h;rcases h with h | ⟨a,o,rfl,g,q⟩ | ⟨p,xs,e,n,rfl,hl,hn,he,q⟩
 .show op_in_seq pins s σ H x y u v Q I b c h
 .cases c;show d_in (by lk) I g b fun s' d=>⟨.bl _,H,d,rfl,q⟩
 .cases c;obtain⟨its,r,pl,hz⟩:=I.list hl;obtain⟨f,h1,i⟩:=qes (A:=X.A.in1) I r b (by show X.A.units+1+n<cLine;lk) he;show SeqAt.in_listAt f pl.isList h1 (by rw[i];show⟨.bl _,H,I,rfl,q⟩)
theorem jC(j:X.K=K)(l:X.A.units+100<cLine):OpR X (compareOp .NotIn) (qdC K true):=by
 subst j;intro pins s σ H x y u v Q I b c h;rcases h with h | ⟨a,o,rfl,g,q⟩ | ⟨p,xs,e,n,rfl,hl,hn,he,q⟩
 .show op_notIn_seq pins s σ H x y u v Q I b c h
 .cases c;show d_notIn (by lk) I g b fun s' d=>⟨.bl _,H,d,rfl,q⟩
 .cases c;obtain⟨its,r,pl,hz⟩:=I.list hl;obtain⟨f,h1,i⟩:=qes (A:=X.A.in1) I r b (by show X.A.units+1+n<cLine;lk) he;show SeqAt.notIn_listAt f pl.isList h1 (by rw[i];show⟨.bl _,H,I,rfl,q⟩)
def rListU(K:yg):List V->Hp->VK->Prop:=fun xs H Q=>(∃ p ys,xs=[.ref p]/\(SqL K H p ys\/SqT K H p ys)/\∀ l,H l=none->Q (.ref l) (upd H l (.lst ys))) \/
 (∃ p kvs,xs=[.ref p]/\H p=some (.dK kvs)/\∀ l,H l=none->Q (.ref l) (upd H l (.lst (kvs.map fun a=>kV a.1)))) \/
 (∃ x,xs=[.str x]/\x.length<=1000/\∀ l,H l=none->Q (.ref l) (upd H l (.lst (x.cps.toList.map fun c=>.str ⟨#[c]⟩))))
theorem qbz{c d:Type}{F:c->d->Prop}:∀{l:List c} {m:List d} {j:Nat} {a:c},Paired F l m->l[j]?=some a->∃ b,m[j]?=some b/\F a b
 | _,_,_,_,.nil,e=>by simp at e
 | _,_,0,_,.cons r _,e=>by simp at e;subst e;show⟨_,rfl,r⟩
 | _,_,j+1,a,.cons _ t,e=>by
  obtain⟨b,h1,f⟩:=qbz (j:=j) (a:=a) t (by simpa using e);show⟨b,by simpa using h1,f⟩
theorem zY:∀{ys:List V} {us:List Value},ys.length=us.length->(∀(j:Nat) y u,ys[j]?=some y->us[j]?=some u->RelV y u)->Vals ys us
 | [],[],_,_=>.nil
 | [],_::_,h,_=>by cases h
 | _::_,[],h,_=>by cases h
 | y::ys,u::us,h,q=>.cons (q 0 y u rfl rfl) (zY (Nat.succ.inj h) fun j c b h1 a=>q (j+1) c b (by simpa using h1) (by simpa using a))
theorem qcF(J:X.K=K)(hc:X.calm=true):zL X (.type "list") (rListU K):=by
 subst J;intro pins s σ H xs us Q I r h;rcases h with h | ⟨p,kvs,rfl,ea,q⟩ | ⟨x,rfl,hx,q⟩
 .show call_list_of pins s σ H xs us Q I r h
 .obtain⟨u,rfl,M⟩:=qbl r;cases M;obtain⟨hz,L,vs,D,d⟩:=(show ObjOk X.prog X.w H s.heap p (.dK kvs) from I.hok p _ ea);obtain⟨ep,n⟩:=d.dictAt;have hl:kvs.length=vs.length:=D.length;show PySem.W.kdl_call (PySem.W.kdl_dict (knd:=jx X.prog X.w) (kvs:=vs) (ep:=ep) L) (I.ok.hd hc) n (by rw[<- hl];show hz) fun h' tk a f A e it=>?_;obtain⟨o,v⟩:=it
  have hv:Vals (kvs.map fun b=>kV b.1) a.toList:=by
   show zY (by rw[ya,hl,<- o];simp) fun j y u h1 g=>?_;obtain⟨k,x,l,F⟩:=v j u (by simpa using g);rw[yd] at h1
   cases B:kvs[j]? with
   | none=>rw[B] at h1;cases h1
   | some b =>
    rw[B] at h1;cases h1;obtain⟨O,C,G,N⟩:=qbz D B;rw[l] at C;cases C;have E:b.1=k:=G;show RelV (kV b.1) u;rw[E];rcases qZ (show qcu k u=true from F) with⟨i,t,rfl,rfl⟩ | ⟨z,t,rfl,rfl⟩
    .show⟨t,rfl⟩
    .show⟨t,rfl⟩
  show⟨.ref s.heap.objs.size,_,I.laid (t':=tk) A (yh _) (show ObjOk X.prog X.w _ h' _ (.lst (kvs.map fun b=>kV b.1)) from⟨by rw[ya];show hz,a.toList,f,hv,by simpa using e⟩),rfl,q _ (I.hok.fresh (yh _))⟩
 .obtain⟨u,rfl,t,rfl⟩:=qbl r;have hsz:x.cps.size<=sizeLine:=yT (qi hx);show call_list_str (I.ok.hd hc) x t (fun h' tk a f A e it=>?_) hsz;obtain⟨o,v⟩:=it
  have hv:Vals (x.cps.toList.map fun c=>V.str ⟨#[c]⟩) a.toList:=by
   show zY (by rw[ya];simp[o]) fun j y u h1 g=>?_;obtain⟨c,t',l,rfl⟩:=v j u (by simpa using g);rw[yd] at h1;have m:x.cps.toList[j]?=some c:=by simpa using l
   rw[m] at h1;cases h1;show⟨t',rfl⟩
  show⟨.ref s.heap.objs.size,_,I.laid (t':=tk) A (yh _) (show ObjOk X.prog X.w _ h' _ (.lst (x.cps.toList.map fun c=>V.str ⟨#[c]⟩)) from⟨by rw[ya];simpa using hsz,a.toList,f,hv,by simpa using e⟩),rfl,q _ (I.hok.fresh (yh _))⟩
end
structure CMethOk(P:Program)(w:World)(K:yg)(mg:Str->Option Value)(base:Heap)(CX:CXT)(k:Nat)(C:Addr)(x m:Str)(ps:LS)(sp:Sp):Prop where
 ex:∃ f fd,FnOk P w K mg base CX k f fd ps sp/\CMeth K C m f/\Binds K fd ps []
 mg_:mg x=some (.ref C)
section
variable{X:Cx}{k:Nat}{C:Addr}{ps:LS}{sp:Sp}{x m:Str}{p pos apos:Pos}{e:Expr}{es:List Expr}{t:TA}
theorem qaY(D:MakeOk X.prog X.w X.K X.mg X.base CX0 k C x ps sp)(h:Room (k+1) X.A)(c:PA X (e::es) t)(g:Gl X x:=by rfl)(a:(x==("__debug__":Str))=false:=by decide)
  (d:starEach (e::es) X.env=(false,eval e X.env)::starEach es X.env:=by rfl) (b:(backTo pos (starEach es X.env)).any (·.1)=false:=by rfl):PE X (.Call (.Name x p) (e::es) [] pos) (qeH C sp [] E0 t):=by
 obtain⟨f,i,F,M,hb⟩:=D.ex;show pe_make M F h g D.mg_ hb .nil qz c a d b
theorem pe_clsmQ{pl:Sem Bool}(D:CMethOk X.prog X.w X.K X.mg X.base CX0 k C x m ps sp)(h:Room k X.A)(d:PA X (e::es) t)(g:Gl X x:=by rfl)(a:(x==("__debug__":Str))=false:=by decide)
  (c:starEach (e::es) X.env=(false,eval e X.env)::starEach es X.env:=by rfl) (b:(backTo pos (starEach es X.env)).any (·.1)=false:=by rfl)
  (i:eval (.Call (.Attribute (.Name x p) m apos) (e::es) [] pos) X.env=(do
   let ov <- eval (.Name x p) X.env
   standAt apos.atName
   let (f,first) <- holding [ov] (getMethod ov m pl)
   callWith pos f first (backTo pos (starEach (e::es) X.env)) (backToKw pos (keywordEach [] X.env))):=by rfl) :
  PE X (.Call (.Attribute (.Name x p) m apos) (e::es) [] pos) (qde sp [] E0 t):=by
 obtain⟨f,j,F,M,hb⟩:=D.ex;show pe_clsm (pl:=pl) M F h g D.mg_ hb qz d a c b i
end
theorem own_eq_same{prog:Program}{w:World}{A:Around}{E:Value->Shared->Prop}{s:Shared}{K:yg}{x C:Addr}{ox:Obj}{od:Option Obj}{Q:Value->Shared->Prop}(l:A.units<cLine)(X:K.In s.heap)(I:PySem.W.InstAt s.heap x ox C od)
  (j:PySem.W.findIn K (.ref C) "__eq__"=some (some (.builtin "object.__eq__"))) (g:PySem.W.mroIn K C (.type "object")=some true) (h:Q (.bool true) s):wpAny (model prog w) A (richCompare .Eq (.ref x) (.ref x)) Q E s:=by
 have a:∀{f:Around} {d:Value->Shared->Prop},d (.bool true) s->wpAny (model prog w) f (call (.builtin "object.__eq__") [.ref x,.ref x]) d E s:=fun{f d} q=>by
  show xQ (xt PySem.F.slot_object_eq.plain PySem.F.entry_object_eq (@PySem.W.check_slot (model prog w) _ _ s "object.__eq__" "object" "__eq__" (.ref x) [.ref x] [] _ (by room) (by room) (I.type.andThen (xy X g)) (PySem.F.args_object_eq_2 _ _) ?_));show yr (yw (yr (wpAny_isSame_ref_self ?_)));show yw q
 have one:wpAny (model prog w) A (tryCompare (.ref x) "__eq__" (.ref x)) (fun r s'=>∃ v,r=some v/\Q v s') E s:=by
  unfold tryCompare;show yr ?_;simp only[callSpecialIfBound?,bindSpecialIfBound?];show Yn (yr (yr (yr (I.type.here ((YN X j).here ?_)))));show yr (kM (wpAny_ite ?_));have b:=PySem.F.slot_object_eq.bind (.ref x)
  have c:wpAny (model prog w) A (call (.builtin "object.__eq__") ([.ref x]++[.ref x])>>=fun v=>pure (some v)) (fun r s'=>wpAny (model prog w) A (match r with | some .notImplemented | none=>pure none | some v=>pure (some v)) (fun r s'=>∃ v,r=some v/\Q v s') E s') E s:=
   yr (a (yw (yw ⟨_,rfl,h⟩)))
  split
  .show yr (xl b (yw c))
  .show wpAny_tryCatch (yr (xl b (yw c)))
 unfold richCompare;simp only[oneThing_ref];show Yn (yr (wpAny_cRoomFor l ?_));show yr (I.type.here (yr (I.type.here ?_)));rw[yE (by simp)];show yr (yw ?_);simp only[xI,XS];show yr (YE one (fun r s' z=>?_) fun _ _ e=>e);obtain⟨v,rfl,i⟩:=z;show yw i
structure OEq(K:yg)(C:Addr):Prop where
 eq:PySem.W.findIn K (.ref C) "__eq__"=some (some (.builtin "object.__eq__"))
 ob:PySem.W.mroIn K C (.type "object")=some true
def qfY(K:yg):R2:=fun x y H Q=>qeL K false x y H Q\/∃ a C dx fs,x=.ref a/\y=.ref a/\H a=some (.ins C dx fs)/\OEq K C/\Q (.bl true) H
theorem k_eqW{X:Cx}{K:yg}(d:X.K=K)(e:X.A.units+100<cLine):OpR X (compareOp .Eq) (qfY K):=by
 subst d;intro pins s σ H x y u v Q I b c h;rcases h with h | ⟨a,C,dx,fs,rfl,rfl,ea,oe,q⟩
 .show k_eqU rfl e pins s σ H x y u v Q I b c h
 .cases b;cases c;obtain⟨f,O,_⟩:=qaN I.hok ea;obtain⟨od,J,_⟩:=O.look;show own_eq_same (by lk) I.kIn J oe.eq oe.ob ⟨.bl true,H,I,rfl,q⟩
theorem je{X:Cx}:MtR X "list.append" rAppend:=mt_append
theorem qbA{X:Cx}:MtR X "list.extend" rExtend:=mt_extend
theorem qcj{X:Cx}:MtR X "list.pop" rPopAt:=mt_popAt
theorem zO:bootBuiltins "ValueError"=some (.type "ValueError"):=by room
section
variable{D:Ends}{σ:St}{H:Hp}{Q:VK}{t u:TS}{te ta tb tc:TE}{tas:TA}{K:yg}{sp:Sp}{E:XK}{EK:St->XK}{C:Addr}{f m:Str}
theorem vFldU(h:ta σ H fun x a=>FlUR K f x a Q):qff K ta f σ H Q:=h
theorem vSFldU(h:te σ H fun y a=>ta σ a fun x b=>SFUR K f x y b (D.nx σ)):qfg K ta te f D σ H:=h
theorem vXMake(h:tas σ H fun vs a=>vs.length<=1000/\∀ x,a x=none->sp (.ref x::vs) (upd a x (XN x C none)) (fun v b=>v=.non/\Q (.ref x) b) E):qdA C sp E tas σ H Q:=h
theorem vMake(h:tas σ H fun vs a=>∀ x dx,a x=none->a dx=none->dx≠x->sp (.ref x::(vs++[])) (upd (upd a dx (.own x)) x (.ins C dx [])) (fun v b=>v=.non/\Q (.ref x) b) E):qeH C sp [] E tas σ H Q:=h
theorem vMeth(h:ta σ H fun x a=>MeR C m x a (tas σ a fun vs b=>sp (x::(vs++[])) b Q E)):qdq C m sp [] E ta tas σ H Q:=h
theorem vVinit(h:tas σ H fun vs b=>∃ a C y,vs=[.ref a,y]/\b a=some (XN a C none)/\XAt K C/\Q .non b):qel K tas σ H Q:=h
theorem vCallS(h:tas σ H fun vs a=>sp vs a Q (EK σ)):qep sp EK tas σ H Q:=h
theorem vMethS(h:ta σ H fun x a=>MeR C m x a (tas σ a fun vs b=>sp (x::vs) b Q (EK σ))):tMethS C m sp EK ta tas σ H Q:=h
theorem vMakeS(h:tas σ H fun vs a=>∀ x dx,a x=none->a dx=none->dx≠x->sp (.ref x::vs) (upd (upd a dx (.own x)) x (.ins C dx [])) (fun v b=>v=.non/\Q (.ref x) b) (EK σ)):tMakeS C sp EK tas σ H Q:=h
theorem vRaise(h:te σ H fun x b=>∃ a C dx,x=.ref a/\b a=some (XN a C dx)/\XAt K C/\EK σ (.ref C) dx (upd b a (XO a C dx))):qeo K EK te D σ H:=h
theorem qbL{x y:V}{t a:Value}{b:Bool}(ty:TyX K H x t)(c:qcf y=some a)(hb:PySem.W.kitOne K t a=some b)(h:Q (.bl b) H):qfh K [x,y] H Q:=⟨x,y,t,a,b,rfl,ty,c,hb,h⟩
end
section
variable{prog:Program}{w:World}{A:Around}{E:Value->Shared->Prop}{s:Shared}
theorem none_dict{a:Addr}{Q:Value->Shared->Prop}(d:s.TypeIs (.ref a) "dict")(e:A.units<cLine)(h:Q (.bool false) s):wpAny (model prog w) A (richCompare .Eq .none (.ref a)) Q E s:=by
 show SeqAt.rc_eq_decline_or (k:=false) rfl d (by decide) PySem.F.sub_dict_NoneType YY PySem.F.slot_dict_eq_refl
  (fun _ c=>call_gives YY rfl PySem.F.entry_NoneType_eq (PySem.F.args_NoneType_eq_2 _ _) (SeqAt.NoneType___eq___none_ref_0 a) c) (fun f c=>?_) (fun _ c=>xl (rfl:isSame .none (.ref a)=pure false) c) (.inr e) h
 show X2 PySem.F.slot_dict_eq_refl d PySem.F.entry_dict_eq ?_ (PySem.F.args_dict_eq_2 _ _);show wpAny _ _ (Builtin.Dict.dictSlotArgs "__eq__" ⟨[.ref a,.none],[]⟩>>=_) _ _ s;show yr ?_;unfold Builtin.Dict.dictSlotArgs;show yr (wpAny_notOrdered_dict d ?_);show wpAny _ _ (pure (Value.ref a,Value.none)) _ _ s;show yw ?_;show yr (wpAny_isInstance (T:="NoneType") (b:=false) rfl PySem.F.sub_NoneType_dict ?_);simp only[Bool.not_false,Xp];show yr (kU (yw ⟨_,rfl,c⟩))
theorem none_own{K:yg}{x C:Addr}{ox:Obj}{od:Option Obj}{Q:Value->Shared->Prop}(i:A.units<cLine)(X:K.In s.heap)(I:PySem.W.InstAt s.heap x ox C od)(f:OEq K C)(g:PySem.W.mroIn K C (.type "NoneType")=some false)
  (h:Q (.bool false) s):wpAny (model prog w) A (richCompare .Eq .none (.ref x)) Q E s:=by
 have j:wpAny (model prog w) A (tryCompare .none "__eq__" (.ref x)) (fun r s'=>r=none/\s'=s) E s:=by
  unfold tryCompare;show yr ?_;simp only[callSpecialIfBound?,bindSpecialIfBound?];show Yn (yr (yr ?_));show yr (xl (rfl:typeOf .none=pure (.type "NoneType")) ?_);show xl YY.lookup ?_;show yr (kM (wpAny_ite ?_))
  have a:wpAny (model prog w) A (call (.builtin "NoneType.__eq__") ([.none]++[.ref x])>>=fun v=>pure (some v)) (fun r s'=>wpAny (model prog w) A (match r with | some .notImplemented | none=>pure none | some v=>pure (some v)) (fun r s'=>r=none/\s'=s) E s') E s:=
   yr (call_gives YY rfl PySem.F.entry_NoneType_eq (PySem.F.args_NoneType_eq_2 _ _) (SeqAt.NoneType___eq___none_ref_0 x) (yw (yw ⟨rfl,rfl⟩)))
  split
  .show yr (xl (YY.bind .none) (yw a))
  .show wpAny_tryCatch (yr (xl (YY.bind .none) (yw a)))
 have l:wpAny (model prog w) A (tryCompare (.ref x) "__eq__" .none) (fun r s'=>r=none/\s'=s) E s:=by
  unfold tryCompare;show yr ?_;simp only[callSpecialIfBound?,bindSpecialIfBound?];show Yn (yr (yr (yr (I.type.here ((YN X f.eq).here ?_)))));show yr (kM (wpAny_ite ?_));have b:=PySem.F.slot_object_eq.bind (.ref x)
  have c:∀{d:Value->Shared->Prop},d .notImplemented s->wpAny (model prog w) A (call (.builtin "object.__eq__") [.ref x,.none]) d E s:=fun{d} q=>by
   show xQ (xt PySem.F.slot_object_eq.plain PySem.F.entry_object_eq (@PySem.W.check_slot (model prog w) _ _ s "object.__eq__" "object" "__eq__" (.ref x) [.none] [] _ (by room) (by room) (I.type.andThen (xy X f.ob)) (PySem.F.args_object_eq_2 _ _) ?_));show yr (yw (yr (xl (rfl:isSame (.ref x) .none=pure false) ?_)));show yw q
  have a:wpAny (model prog w) A (call (.builtin "object.__eq__") ([.ref x]++[.none])>>=fun v=>pure (some v)) (fun r s'=>wpAny (model prog w) A (match r with | some .notImplemented | none=>pure none | some v=>pure (some v)) (fun r s'=>r=none/\s'=s) E s') E s:=
   yr (c (yw (yw ⟨rfl,rfl⟩)))
  split
  .show yr (xl b (yw a))
  .show wpAny_tryCatch (yr (xl b (yw a)))
 unfold richCompare;show Yn (yr (wpAny_cRoomFor i ?_));show wpAny _ _ (typeOf .none>>=_) _ _ _;show yr (xl (rfl:typeOf .none=pure (.type "NoneType")) (yr (I.type.here ?_)));rw[yG (by rfl)];show yr ((xy X g).here ?_);simp only[xI,XS];show yr (YE j (fun r s' z=>?_) fun _ _ e=>e);obtain⟨rfl,rfl⟩:=z;simp only[Bool.not_false,Xp];show yr (YE l (fun r s' z=>?_) fun _ _ e=>e);obtain⟨rfl,rfl⟩:=z;show yr (kU (yr (xl (rfl:isSame .none (.ref x)=pure false) (yw h))))
end
def rNoneRef(K:yg):R2:=fun x y H Q=>∃ a,x=.non/\y=.ref a/\((∃ xs,SqL K H a xs\/SqT K H a xs)\/(∃ kvs,H a=some (.dK kvs))\/∃ C dx fs,H a=some (.ins C dx fs)/\OEq K C/\PySem.W.mroIn K C (.type "NoneType")=some false)/\Q (.bl false) H
def qfi(K:yg):R2:=fun x y H Q=>qfY K x y H Q\/rNoneRef K x y H Q
theorem zG{X:Cx}{K:yg}(e:X.K=K)(j:X.A.units+100<cLine):OpR X (compareOp .Eq) (qfi K):=by
 intro pins s σ H x y u v Q I f g h;rcases h with h | ⟨a,rfl,rfl,h,q⟩
 .show k_eqW e j pins s σ H x y u v Q I f g h
 .subst e;cases f;cases g;have b:EP X pins σ Q (.bool false) s:=⟨.bl false,H,I,rfl,q⟩;rcases h with⟨xs,hl | hl⟩ | ⟨kvs,c⟩ | ⟨C,dx,fs,c,l,i⟩
  .obtain⟨its,r,pl,_⟩:=I.list hl;show SeqAt.RcAt.none_list pl.isList (by lk) _ _ _ _ b
  .obtain⟨its,r,pl,_⟩:=I.tuple hl;show SeqAt.RcAt.none_tuple pl (by lk) _ _ _ _ b
  .obtain⟨_,_,vs,_,d⟩:=(show ObjOk X.prog X.w H s.heap a (.dK kvs) from I.hok a _ c);show none_dict d.typeIs (by lk) b
  .obtain⟨m,O,_⟩:=qaN I.hok c;obtain⟨od,J,_⟩:=O.look;show none_own (by lk) I.kIn J l i b
def XL(K:yg)(C:Addr)(c:List Value):Prop:=∃ j l N bs a sn sub ab b d e f g h i,K.lookup C=some (excClassObj j l C N bs c a sn sub ab b d e f g h i "ValueError.__new__")
section
variable{K:yg}{C D:Addr}{bm bn:List Value}
theorem XL.xat(x:XL K C bm)(hb:qbZ bm=true)
  (f:PySem.W.findIn K (.ref C) "__getattribute__"=some (some (.builtin "BaseException.__getattribute__"))) (g:PySem.W.findIn K (.ref C) "__getattr__"=some none)
  (bx:PySem.W.mroIn K C (.type "BaseException")=some true) (i:PySem.W.mroIn K C (.type "object")=some true) (h:PySem.W.hasDictIn K C=true) (c:PySem.W.findIn K (.ref C) "__class__"=some (some (.builtin "object.__class__")))
  (b:PySem.W.specialIn K (.builtin "object.__class__") "__get__"=some (some (.builtin "getset_descriptor.__get__"))) (ct:PySem.W.takesIn K (.builtin "object.__class__")=some true)
  (j:PySem.W.findIn K (.ref C) "__setattr__"=some (some (.builtin "object.__setattr__"))):XAt K C:=by
 obtain⟨r,s,N,bs,a,sn,sub,ab,d,l,m,n,o,p,q,e⟩:=x;show⟨f,g,bx,i,h,c,b,ct,j,?_,?_⟩
 .unfold PySem.W.clsIn;rw[e];show hb
 .unfold qfw;rw[e];simp[hb]
theorem XL.kit(x:XL K C bm)(y:XL K D bn):PySem.W.kitOne K (.ref C) (.ref D)=some ((Value.ref C::bm).contains (.ref D)):=by
 obtain⟨H,I,N,bs,d,sn,sub,ab,i,w,A,B,E,F,G,e⟩:=x;obtain⟨q,t,v,h,a,u,f,g,b,j,l,m,n,o,p,c⟩:=y;unfold PySem.W.kitOne PySem.W.kitCls;split
 .rename_i z
  have z:C=D:=X5 (Ye.mp z);subst z;simp
 .dsimp only;have r:(PySem.W.clsIn K D).isSome=true:=by unfold PySem.W.clsIn;rw[c];rfl
  have s:(PySem.W.typeIn K (.ref D)==some (.type "type"))=true:=by show((K.lookup D).map (·.cls)==_)=true;rw[c];rfl
  rw[yG (by rw[r,s];rfl)];unfold PySem.W.subIn PySem.W.mroIn PySem.W.clsIn;dsimp only;rw[e];rfl
theorem XL.kitT(x:XL K C bm){T:String}(h:PySem.W.kitMeta T=true):PySem.W.kitOne K (.ref C) (.type T)=some (bm.contains (.type T)):=by
 obtain⟨l,m,N,bs,a,sn,sub,ab,b,c,d,f,g,i,j,e⟩:=x;unfold PySem.W.kitOne PySem.W.kitCls;split
 .rename_i z
  show absurd (Ye.mp z) nofun
 .dsimp only;rw[yG h];unfold PySem.W.subIn PySem.W.mroIn PySem.W.clsIn;dsimp only;rw[e];show some ((Value.ref C::bm).contains _)=_;rw[Yv];rfl
noncomputable abbrev qcG:List Value:=[.type "ValueError",.type "Exception",.type "BaseException",.type "object"]
theorem qdD:qbZ qcG=true:=by decide
theorem xmro_on{c:Addr}:qbZ (.ref c::qcG)=true:=qdD
theorem kits{K:yg}{a:LQ}{c:Addr}(n:(a++[c]).Nodup)(h:∀ i,i<a.length->XL K (a.getD i c) (.ref c::qcG))(hc:XL K c qcG) :
  (∀ i j,i<a.length->j<a.length->PySem.W.kitOne K (.ref (a.getD i c)) (.ref (a.getD j c))=some (decide (i=j)))/\(∀ i,i<a.length+1->PySem.W.kitOne K (.ref (a.getD i c)) (.ref c)=some true) /\
  (∀ i,i<a.length+1->PySem.W.kitOne K (.ref (a.getD i c)) (.type "ValueError")=some true)/\∀ j,j<a.length->PySem.W.kitOne K (.ref c) (.ref (a.getD j c))=some false:=by
 have m:∀(j:Nat) (b:j<a.length),a.getD j c=a[j]:=fun j b=>by simp[List.getD,b]
 have hl:a.getD a.length c=c:=by simp
 have g:∀ j,j<a.length->c≠a.getD j c:=fun j b e=>by
  have s:=(yX.mp n).2.2 (a.getD j c) (by rw[m j b];show Xy b) c (by simp);show s e.symm
 show⟨fun i j f b=>?_,fun i f=>?_,fun i f=>?_,fun j b=>?_⟩
 .rw [(h i f).kit (h j b)]
  congr 1
  rw[Yv,Yv];have l:((Value.ref (a.getD j c))==Value.ref c)=false:=Yz.mpr fun e=>g j b (X5 e).symm;have p:List.contains qcG (Value.ref (a.getD j c))=false:=rfl;rw[l,p];by_cases d:i=j
  .subst d;simp
  .have r:((Value.ref (a.getD j c))==Value.ref (a.getD i c))=false:=Yz.mpr fun e=>by
    have e:=X5 e;rw[m i f,m j b] at e;have o:=xm.mp (yX.mp n).1;rcases Nat.lt_or_gt_of_ne d with q | q
    .show o i j f b q e.symm
    .show o j i b f q e
   rw[r];simp[d]
 .rcases Nat.lt_or_ge i a.length with hi' | hi'
  .rw [(h i hi').kit hc,Yv,Yv];simp
  .have:i=a.length:=by lk
   subst this;rw[hl,hc.kit hc];simp
 .rcases Nat.lt_or_ge i a.length with hi' | hi'
  .rw [(h i hi').kitT (by room)];rfl
  .have:i=a.length:=by lk
   subst this;rw[hl,hc.kitT (by room)];rfl
 .rw [hc.kit (h j b),Yv];have l:((Value.ref (a.getD j c))==Value.ref c)=false:=Yz.mpr fun e=>g j b (X5 e).symm;rw[l];rfl
end
end L2
namespace HT
open PySem PySem.Spec PyProof.Rows
section
variable{prog:Program}{w:World}{A:Around}{E:Value->Shared->Prop}{s:Shared}
end
end HT
namespace L2
open PySem PySem.Spec PyProof.Rows
variable{H:Hp}{σ:St}
def tRev(K:yg)(d:TE)(e:TO):TE:=fun σ H Q=>d σ H fun x c=>e σ c fun o b=>o=some (-1)/\∃ a y z,x=.ref a/\SqT K b a [y,z]/\∀ p,b p=none->Q (.ref p) (upd b p (.tup [z,y]))
theorem vRev{K:yg}{c:TE}{d:TO}{Q:VK}(h:c σ H fun x e=>d σ e fun o b=>o=some (-1)/\∃ a y z,x=.ref a/\SqT K b a [y,z]/\∀ p,b p=none->Q (.ref p) (upd b p (.tup [z,y]))):tRev K c d σ H Q:=h
section
variable{X:Cx}{K:yg}{e st:Expr}{te:TE}{ts:TO}{p2 pos:Pos}
end
theorem Inv.turnedL{X:Cx}{a:List (Addr×Obj)}{s:Shared}{h':Heap}{t':Nat}{fp:LQ}(I:Inv X a σ H s)(k:∀ b o,b∉fp->s.heap.get? b=some o->h'.get? b=some o)(f:∀ b∈fp,qcv X a H b):Inv X a σ H { s with heap:=h',toks:=t' }:=by
 have d:∀ b u,H b=some u->b∉fp:=fun b u e z=>by rw[(f b z).1] at e;cases e
 have l:X.env.locals∉fp:=fun z=>(f _ z).2.1 rfl;show I.step (g':=s.gens) (d':=s.drawn) (ch:=fp) (fun b hb=>?_) (fun b o _ _ hc e _=>k b o hc e) (fun b o _ _ hc e _=>⟨o.slots,k b o hc e⟩) (fun _ _ _ _ n=>n)
  (fun b o hc e=>⟨o,k b o hc e⟩) (fun _ _ e=>e) (fun _ _ _ e=>e) (fun b y e=>⟨#[],by rw[e];simp⟩) (fun m p=>?_) (fun b u e=>?_) I.bare
 .obtain⟨w,g,x,h,i,j⟩:=f b hb;show⟨h,g,i,j⟩
 .obtain⟨o,es,ep,t,r⟩:=p;show⟨o,es,ep,k _ o l t,r⟩
 .show(I.hok b u e).stay (fun c v hc q=>k c v ?_ q) (fun _ q=>q) fun _ _ q=>q;rcases hc with z | z
  .rw [z];show d b u e
  .show d c _ z
noncomputable def Ite(K:yg)(a:Addr):It:=
 ⟨fun i H=>∃ xs x,SqL K H a xs/\xs[i]?=some x,fun i H x H'=>∃ t y,x=.ref t/\H t=none/\H'=upd H t (.tup [.int i,y])/\∀ xs,SqL K H a xs->xs[i]?=some y,fun i H=>∃ xs,SqL K H a xs/\xs.length<=i⟩
theorem push_some{h:Heap}{o v:Obj}{b:Addr}(e:(h.push o).get? b=some v)(ne:b≠h.objs.size):h.get? b=some v:=(Heap.get?_push_cases e).elim (fun z=>absurd z.1 ne) fun z=>z
def iEnum(K:yg)(c:TA):TI:=fun σ H R=>c σ H fun vs b=>∃ a xs,vs=[.ref a]/\SqL K b a xs/\R (Ite K a) b
theorem vEnum{K:yg}{b:TA}{R:It->Hp->Prop}(h:b σ H fun vs c=>∃ a xs,vs=[.ref a]/\SqL K c a xs/\R (Ite K a) c):iEnum K b σ H R:=h
section
variable{X:Cx}
end
end L2
namespace L2
open PySem PySem.Spec PyProof.Rows PySem.Builtin PySem.Builtin.Str
theorem qfj{a c:Nat}(h:a+100<c):a+1<c:=by lk
theorem vDGet2{e ty f:TE}{b:St}{H:Hp}{Q:VK}(h:e b H fun x c=>∃ a,x=.ref a/\IsD c a/\ty b c fun y g=>f b g fun z d=>∃ o,DGet d a y o/\Q (o.getD z) d):tDGet2 e ty f b H Q:=h
end L2
namespace L2
open PySem PySem.Spec PyProof.Rows
theorem eqV_strD(a b:Str):eqV (.str a) (.str b)=decide (a=b):=by
 have e:eqV (.str a) (.str b)=(a==b):=by simp[eqV]
 rw[e,YQ,Ye,Yq]
theorem qck:∀(ys:LS) (y:Str) (m:Nat) (b:m<ys.length),m<ys.idxOf y->ys[m]≠y
 | [],_,_,b,_=>by simp at b
 | a::r,y,m,b,h=>by
  rw[List.idxOf_cons] at h;by_cases e:a=y
  .subst e;simp at h
  .have hb:(a==y)=false:=Yz.mpr e;rw[hb] at h
   cases m with
   | zero=>show e
   | succ k =>
    have c:k<r.idxOf y:=by
     have h:k+1<r.idxOf y+1:=h;lk
    show qck r y k (by simpa using b) c
section
variable{X:Cx}{K:yg}
def rIndex(K:yg):V->List V->Hp->VK->Prop:=fun x vs H Q=>∃(p:Addr) (ys:LS) (y:Str),x=.ref p/\vs=[.str y]/\SqL K H p (ys.map V.str)/\y∈ys/\Q (.int (ys.idxOf y:Nat)) H
theorem qcH(A:X.K=K):MtR X "list.index" (rIndex K):=by
 subst A;intro t s N H x vs v us Q I J G h;obtain⟨p,ys,y,rfl,rfl,B,D,q⟩:=h;cases J;obtain⟨u,rfl,E⟩:=G.one;obtain⟨a,r,pl,hz⟩:=I.list B;obtain⟨⟨cls,z,data,L⟩,o,hc,n,l⟩:=id pl.isList;simp only at hc l;subst hc l;have fs:(ys.map V.str).all qai=true:=by rw[kS];show Ys.mpr fun _ _=>rfl
 have b:(ys.map V.str).length=a.length:=r.length;rw[ya] at b;have d:ys.idxOf y<ys.length:=List.idxOf_lt_length_iff.mpr D
 have at_:∀(m:Nat) (i:m<ys.length) (c:m<a.toArray.size),eqU (.str y) a.toArray[m]=decide (ys[m]=y):=fun m i c=>by
  have g:(ys.map V.str)[m]?=some (.str ys[m]):=by rw[yd,yb i];rfl
  obtain⟨w,hw,j⟩:=r.get g
  have e:a.toArray[m]=w:=by
   have:a.toArray[m]?=some w:=by simpa using hw
   rw[xn c] at this;show ym this
  rw[e,qdv j rfl,eqV_strD]
 have M:ys.length<=sizeLine:=by rw[ya] at hz;show hz
 have C:sizeLine<2 ^ 63-1:=by decide
 show kt Xa ⟨_,o,rfl⟩ PySem.F.entry_list_index (PySem.F.args_list_index_2 _ _)
  (SeqAt.list_indexAt p a.toArray n z L u (eqU (.str y)) (ys.idxOf y) (by simpa [<- b] using d) (by lk) ?_ ?_) ⟨o,fun w hw=>zV E rfl r fs w (by simpa using hw),.int _,H,I.tok _,⟨_,rfl⟩,q⟩
 .rw [at_ _ d];show yD (xo d)
 .intro m i f;rw[at_ m (by lk)];show yl fun e=>qck ys y m (by lk) f e
end
theorem slice_ixD(k n:Nat):Builtin.Str.strSliceIndices (some (k:Int)) none 1 n=(List.range (n-k)).map (k + ·):=by
 unfold Builtin.Str.strSliceIndices sliceRange;simp only[show(1:Int)>0 by decide,Xp];rw[yE (show ¬ ((k:Int)<0) by lk)];have a:max 0 (min (k:Int) n)=((min k n:Nat):Int):=by lk
 rw[a];by_cases c:k<=n
 .rw [kh c];have b:(fun(j:Nat)=>((k:Int)+1*(j:Int)).toNat)=(k + ·):=by funext j;lk
  rw[b]
  congr 2
  split
  .rw [Kc];lk
  .omega
 .rw [X3 (by lk),show n-k=0 by lk];rw[yE (by lk)];rfl
theorem qdE(a:Array Nat)(k:Nat):∀ m,k+m<=a.size->((List.range m).map (k + ·)).filterMap (a[·]?)=(a.toList.drop k).take m
 | 0,_=>by simp
 | m+1,h=>by
  rw[k7,yC,List.filterMap_append,qdE a k m (by lk),yH]
  congr 1
  have e:a[k+m]?=some a[k+m]:=xn (by lk);have b:(a.toList.drop k)[m]?=some a[k+m]:=by rw[xp,xL];show e
  rw[b,YF,xT,e];rfl
theorem slice_drop(z:Str)(k:Nat):(Txt.slice z (some (k:Int)) none).cps.toList=z.cps.toList.drop k:=by
 unfold Txt.slice;rw[slice_ixD];have hz:z.length=z.cps.toList.length:=by simp[Str.length]
 split
 .rename_i h
  rw[ya,List.length_range] at h;have h:z.length-k=z.length:=by simpa using h
  by_cases a:k=0
  .subst a;rw[List.drop_zero]
  .have:z.cps.toList=[]:=List.length_eq_zero_iff.mp (by lk);rw[this];simp
 .show(List.filterMap _ _).toArray.toList=_;by_cases a:k<=z.length
  .have:=qdE z.cps k (z.length-k) (by show k+(z.length-k)<=z.length;lk);rw[this];show YD (by rw[Yp];lk)
  .rw [show z.length-k=0 by lk,XU (by lk)];rfl
theorem qcl(xs:List V)(k:Nat):qct xs none (some (k:Int))=xs.take k:=by
 unfold qct;rw[HT.sIx_none,HT.sIx_nat,List.drop_zero,Ke];by_cases h:k<=xs.length
 .rw [kh h]
 .rw [X3 (by lk),YD (yh _),YD (by lk)]
theorem qaC(xs:List V)(k:Nat):qct xs (some (k:Int)) none=xs.drop k:=by
 unfold qct;rw[HT.sIx_none,HT.sIx_nat];by_cases h:k<=xs.length
 .rw [kh h,YD (by rw[Yp];lk)]
 .rw [X3 (by lk),List.drop_length,XU (by lk)];simp
section
variable{X:Cx}{K:yg}
end
end L2
namespace HT
open PySem PySem.Spec PyProof.Rows
section
variable{prog:Program}{w:World}{A:Around}{E:Value->Shared->Prop}{s:Shared}
end
end HT
namespace L2
open PySem PySem.Spec PyProof.Rows
def tStep(K:yg)(e:TE)(f:TO):TE:=fun c H Q=>e c H fun x d=>f c d fun o b=>∃ a y z,x=.ref a/\SqT K b a [y,z]/\((o=some (-1)/\∀ p,b p=none->Q (.ref p) (upd b p (.tup [z,y])))\/(o=some 1/\Q (.ref a) b))
theorem vStep{K:yg}{d:TE}{e:TO}{c:St}{H:Hp}{Q:VK}(h:d c H fun x f=>e c f fun o b=>∃ a y z,x=.ref a/\SqT K b a [y,z]/\((o=some (-1)/\∀ p,b p=none->Q (.ref p) (upd b p (.tup [z,y])))\/(o=some 1/\Q (.ref a) b))):tStep K d e c H Q:=h
section
variable{X:Cx}{K:yg}{e st:Expr}{te:TE}{ts:TO}{p2 pos:Pos}
end
def FG(K:yg)(a:Str)(st:Stmt):Prop:=∃ f b,PySem.W.nsIn K mainGlobals a=some (some (.ref f))/\Fun K a a st f b
def FM(K:yg)(C:Addr)(m b:Str)(st:Stmt):Prop:=∃ f a,PySem.W.findIn K (.ref C) m=some (some (.ref f))/\PySem.W.isFn K (.ref f)=true/\Fun K m b st f a
def FC(K:yg)(C:Addr)(m b:Str)(st:Stmt):Prop:=∃ f a,PySem.W.findCls K (.ref C) (.type "type") m=some (.val (.ref f))/\Fun K m b st f a
structure XQ(K:yg)(C:Addr):Prop where
 xa:PySem.W.findIn K (.ref C) "__getattribute__"=some (some (.builtin "BaseException.__getattribute__"))
 xb:PySem.W.findIn K (.ref C) "__getattr__"=some none
 xd:PySem.W.mroIn K C (.type "BaseException")=some true
 xe:PySem.W.mroIn K C (.type "object")=some true
 xf:PySem.W.hasDictIn K C=true
 xg:PySem.W.findIn K (.ref C) "__class__"=some (some (.builtin "object.__class__"))
 xh:PySem.W.findIn K (.ref C) "__setattr__"=some (some (.builtin "object.__setattr__"))
 p:PySem.W.keepIn K (.ref C)=true
section
variable{P:Program}{w:World}{K:yg}{mg:Str->Option Value}{base h:Heap}{CX:CXT}{k:Nat}{sp:Sp}{st:Stmt}{f:Addr}{fd:FuncData}{ps:LS}{nm m ql x:Str}{C:Addr}
theorem lN0{P:List Value->Prop}(h:P []):∀ us:List Value,us.length=0->P us:=fun us e=>by rw[List.eq_nil_of_length_eq_zero e];show h
theorem lNs{P:List Value->Prop}{n:Nat}(h:∀ a r,r.length=n->P (a::r)):∀ us:List Value,us.length=n+1->P us:=fun us e=>by
 cases us with
 |nil=>cases e
 |cons a r=>show h a r (Nat.succ.inj e)
theorem lN1{P:List Value->Prop}(h:∀ a,P [a]):∀ us:List Value,us.length=1->P us:=lNs fun a=>lN0 (h a)
theorem lN2{P:List Value->Prop}(h:∀ a b,P [a,b]):∀ us:List Value,us.length=2->P us:=lNs fun a=>lN1 (h a)
theorem lN3{P:List Value->Prop}(h:∀ a b c,P [a,b,c]):∀ us:List Value,us.length=3->P us:=lNs fun a=>lN2 (h a)
theorem lN4{P:List Value->Prop}(h:∀ a b c d,P [a,b,c,d]):∀ us:List Value,us.length=4->P us:=lNs fun a=>lN3 (h a)
theorem lN5{P:List Value->Prop}(h:∀ a b c d e,P [a,b,c,d,e]):∀ us:List Value,us.length=5->P us:=lNs fun a=>lN4 (h a)
abbrev BA(x ql:Str)(st:Stmt)(ps:LS):Prop:=∀(kV b d:Value) (c:Option Addr) (a ct:Value) (us:List Value),us.length=ps.length->bindArgs (PySem.W.fnOf x ql (qam st) (zD st) (qh st) .none kV b d c a ct) ⟨us,[]⟩=pure (ps.zip us)
theorem fg_mk(X:K.In h)(G:h.Ns mainGlobals mg)(a:PySem.W.nsIn K mainGlobals nm=some (some (.ref f)))(F:Fun K nm nm st f fd)(o:FnOk P w K mg base CX k f fd ps sp)
  (hb:BA nm nm st ps:=by first | (show fun _ _ _ _ _ _=>lN1 fun _=>rfl) | (show fun _ _ _ _ _ _=>lN2 fun _ _=>rfl) | (show fun _ _ _ _ _ _=>lN3 fun _ _ _=>rfl) | (show fun _ _ _ _ _ _=>lN4 fun _ _ _ _=>rfl)) :
  DefOk P w K mg base CX k nm ps sp:=⟨_,_,o,kH X G a,F.kp,F.binds hb⟩
theorem fm_mk(b:Cls K C)(a:PySem.W.findIn K (.ref C) m=some (some (.ref f)))(n:PySem.W.isFn K (.ref f)=true)(F:Fun K m ql st f fd)(o:FnOk P w K mg base CX k f fd ps sp)
  (hb:BA m ql st ps:=by first | (show fun _ _ _ _ _ _=>lN1 fun _=>rfl) | (show fun _ _ _ _ _ _=>lN2 fun _ _=>rfl) | (show fun _ _ _ _ _ _=>lN3 fun _ _ _=>rfl) | (show fun _ _ _ _ _ _=>lN4 fun _ _ _ _=>rfl)) :
  MethOk P w K mg base CX k C m ps sp:=⟨⟨_,_,o,⟨a,n,F.kp⟩,F.binds hb⟩,b⟩
theorem fw_mk(X:K.In h)(G:h.Ns mainGlobals mg)(c:PySem.W.nsIn K mainGlobals x=some (some (.ref C)))(b:PySem.W.makesIn K C=true)(d:PySem.W.keepIn K (.ref C)=true)(a:PySem.W.findIn K (.ref C) "__init__"=some (some (.ref f)))(n:PySem.W.isFn K (.ref f)=true)(F:Fun K "__init__" ql st f fd)(o:FnOk P w K mg base CX k f fd ps sp)
  (hb:BA "__init__" ql st ps:=by first | (show fun _ _ _ _ _ _=>lN1 fun _=>rfl) | (show fun _ _ _ _ _ _=>lN2 fun _ _=>rfl) | (show fun _ _ _ _ _ _=>lN3 fun _ _ _=>rfl)) :
  MakeOk P w K mg base CX k C x ps sp:=⟨⟨_,_,o,⟨b,a,n,d⟩,F.binds hb⟩,kH X G c⟩
theorem fx_mk(X:K.In h)(G:h.Ns mainGlobals mg)(c:PySem.W.nsIn K mainGlobals x=some (some (.ref C)))(Y:XAt K C)(q:XQ K C)(a:PySem.W.findIn K (.ref C) "__init__"=some (some (.ref f)))(n:PySem.W.isFn K (.ref f)=true)(F:Fun K "__init__" ql st f fd)(o:FnOk P w K mg base CX0 k f fd ps sp)
  (hb:BA "__init__" ql st ps:=by first | (show fun _ _ _ _ _ _=>lN1 fun _=>rfl) | (show fun _ _ _ _ _ _=>lN2 fun _ _=>rfl)) :
  XMakeOk P w K mg base k C x ps sp:=⟨⟨_,_,o,⟨Y,a,n,q.p⟩,F.binds hb⟩,kH X G c⟩
theorem fc_mk(X:K.In h)(G:h.Ns mainGlobals mg)(c:PySem.W.nsIn K mainGlobals x=some (some (.ref C)))(a:PySem.W.readsIn K C (.type "type")=true)(b:PySem.W.findCls K (.ref C) (.type "type") m=some (.val (.ref f)))(d:PySem.W.specialIn K (.ref C) "__getattribute__"=some (some (.builtin "type.__getattribute__")))(F:Fun K m ql st f fd)(o:FnOk P w K mg base CX k f fd ps sp)
  (hb:BA m ql st ps:=by(show fun _ _ _ _ _ _=>lN2 fun _ _=>rfl)) :
  CMethOk P w K mg base CX k C x m ps sp:=⟨⟨_,_,o,⟨a,b,d,F.kp⟩,F.binds hb⟩,kH X G c⟩
theorem qfk{c:List Value}(x:XL K C c)(hb:qbZ c=true)(q:XQ K C)(a:PySem.W.specialIn K (.builtin "object.__class__") "__get__"=some (some (.builtin "getset_descriptor.__get__")))(b:PySem.W.takesIn K (.builtin "object.__class__")=some true):XAt K C:=x.xat hb q.xa q.xb q.xd q.xe q.xf q.xg a b q.xh
end
end L2
namespace HT
open PySem PySem.Spec PyProof.Rows
section
variable{prog:Program}{w:World}{A:Around}{E:Value->Shared->Prop}{s:Shared}
end
end HT
namespace L2
open PySem PySem.Spec PyProof.Rows
variable{H:Hp}{R:It->Hp->Prop}{es:List Expr}{pos:Pos}{te:TE}{σ:St}
section
variable{X:Cx}{K:yg}{pos p:Pos}{x:Str}
end
section
variable{X:Cx}{K:yg}{e lo st:Expr}{te:TE}{tl ts:TO}{p2 pos:Pos}
def qfZ(K:yg)(te:TE):TI:=fun σ H R=>te σ H fun v b=>∃ a xs,v=.ref a/\SqL K b a xs/\R (Itl K a) b
theorem qeM{K:yg}(h:te σ H fun v b=>∃ a xs,v=.ref a/\SqL K b a xs/\R (Itl K a) b):qfZ K te σ H R:=h
theorem qdF{t:Expr}(j:X.K=K)(l:PE X e te):PI X t e (qfZ K te):=by
 subst j;intro c s σ H R I h;show thn (l c s σ H _ I h) fun v d ⟨y,g,f,r,a,xs,i,m,q⟩=>?_;subst i;cases r
 have fp:∀ b∈[d.heap.objs.size],qcv X c g b:=fun b hb=>by
  have e:b=d.heap.objs.size:=by simpa using hb
  subst e;show f.fpOk (yh _) (f.hok.fresh (yh _))
 obtain⟨n,u,p,hz⟩:=f.list m;show Xs p.isList ⟨d.heap.objs.size,[d.heap.objs.size],_,_,g,rfl,f.kept (t':=d.toks) fun b o e=>yu _ e,qb1 a _,⟨_,yU _ rfl,rfl,rfl⟩,fp,q⟩
end
noncomputable def Itz(K:yg)(a b:Addr):It:=
 ⟨fun i H=>∃ xs ys x y,SqL K H a xs/\SqL K H b ys/\xs[i]?=some x/\ys[i]?=some y,fun i H v H'=>∃ t x y,v=.ref t/\H t=none/\H'=upd H t (.tup [x,y])/\(∀ xs,SqL K H a xs->xs[i]?=some x)/\∀ ys,SqL K H b ys->ys[i]?=some y,fun i H=>∃ xs ys,SqL K H a xs/\SqL K H b ys/\(xs.length<=i\/ys.length<=i)⟩
def tnZ(z TI TO c d a b:Addr)(i:Nat)(h:Heap):Prop:=IsZip h z TI TO .none/\IsPair h TI (.ref c) (.ref d)/\(∃ u v,IsPair h TO u v)/\h.IsListIter c a i/\h.IsListIter d b i
theorem turn_zip{P:Program}{w:World}{K:yg}{x1}(a b z TI TO n q:Addr)(D:ZipApart z TI TO n q a b):Turn P w K (.Tuple es x1 pos) (Itz K a b) [z,TI,TO,n,q] z (tnZ z TI TO n q a b) where
 mem:=by simp
 obj:=fun i h st c hc=>by
  obtain⟨hz,d,⟨u,v,g⟩,⟨o1,e1,c1,d1⟩,⟨o2,e2,c2,d2⟩⟩:=st;simp only[yz,yM,Yt] at hc;rcases hc with rfl | rfl | rfl | rfl | rfl
  .show⟨_,hz,fun v z=>by have F:Data.fields _=Data.cell v:=z;cases F⟩
  .show⟨_,d,fun v z=>by have F:Data.seq _ _=Data.cell v:=z;cases F⟩
  .show⟨_,g,fun v z=>by have F:Data.seq _ _=Data.cell v:=z;cases F⟩
  .show⟨o1,e1,fun v z=>by rw[d1] at z;cases z⟩
  .show⟨o2,e2,fun v z=>by rw[d2] at z;cases z⟩
 keep:=fun i h h' st k=>by
  obtain⟨hz,d,⟨u,v,g⟩,h1,t⟩:=st;show⟨k z (by simp) _ hz,k TI (by simp) _ d,⟨u,v,k TO (by simp) _ g⟩,h1.at fun o x=>k n (by simp) o x,t.at fun o x=>k q (by simp) o x⟩
 item:=by
  intro X S hw R hc i l s σ H E I T st U;subst S hw R;obtain⟨hz,d,⟨u,v,g⟩,h1,t⟩:=st;obtain⟨xs,ys,x,y,J,m,hx,hy⟩:=U;obtain⟨ad,rv,p,_⟩:=I.list J;obtain⟨C,r,p2,_⟩:=I.list m;obtain⟨L,W,ag⟩:=rv.get hx;obtain⟨M,Y,ah⟩:=r.get hy;show wpAny_pyNext_zip_item D hz d g h1 t p.isList p2.isList (x:=L) (y:=M) (by simpa using W) (by simpa using Y) fun h' ab A N O hT hsz G=>?_;show⟨_,rfl,wpAny_letOwnedTupleGo_zip ab fun h3 ac j=>?_⟩;have fre:H s.heap.objs.size=none:=I.hok.fresh (yh _);have lt:∀{c o},s.heap.get? c=some o->s.heap.objs.size≠c:=fun e=>Yg (yI e);have nz:=lt hz;have ae:=lt d;have af:=lt g;have n1:s.heap.objs.size≠n:=by obtain⟨_,e,_⟩:=h1;show lt e
  have n2:s.heap.objs.size≠q:=by obtain⟨_,e,_⟩:=t;show lt e
  have I1:Inv X l σ (upd H s.heap.objs.size (.tup [x,y])) { s with heap:=s.heap.push { cls:=.type "tuple",data:=.seq #[L,M] },toks:=s.toks }:=
   I.laid (fun b u e=>yu _ e) (yh _) ⟨by show 2<=sizeLine;decide,[L,M],.cons ag (.cons ah .nil),⟨_,yU _ rfl,rfl,_,rfl⟩⟩
  have B:∀ c∈[z,TI,TO,n,q],qcv X l (upd H s.heap.objs.size (.tup [x,y])) c:=fun c hc=>by
   obtain⟨f0,f⟩:=T c hc;show⟨?_,f⟩;rw[qf]
   .show f0
   .simp only[yz,yM,Yt] at hc;rcases hc with rfl | rfl | rfl | rfl | rfl
    .show nz.symm
    .show ae.symm
    .show af.symm
    .show n1.symm
    .show n2.symm
  have kk:∀ c o,c∉[z,TI,TO,n,q]->(s.heap.push { cls:=.type "tuple",data:=.seq #[L,M] }).get? c=some o->h3.get? c=some o:=fun c o hc e=>by
   simp only[yz,yM,Yt,Ka] at hc;show j.extBut _ _ hc.1 ?_;by_cases hz:c=s.heap.objs.size
   .subst hz;rw[yU _ rfl] at e;cases e;show hT
   .show G c o hc.1 hc.2.2.1 hc.2.2.2.1 hc.2.2.2.2 (push_some e hz)
  have I2:=I1.turnedL (h':=h3) (t':=s.toks) (fp:=[z,TI,TO,n,q]) kk B;show⟨.ref s.heap.objs.size,_,I2,rfl,⟨_,x,y,rfl,fre,rfl,fun ai Z=>by rw[I.list_inj Z J];show hx,fun ys' aa=>by rw[I.list_inj aa m];show hy⟩,⟨ac,?_,⟨_,_,j.extBut _ _ D.TOz A⟩,N.extBut j.extBut D.i1z,O.extBut j.extBut D.i2z⟩,fun c hc=>(B c hc).1⟩;show j.extBut _ _ D.TIz (G _ _ D.TIz D.TITO D.TIi1 D.TIi2 d)
 done:=by
  intro X S hw R hc i l s σ H E I T st U;subst S hw R;obtain⟨hz,d,⟨u,v,g⟩,h1,t⟩:=st;obtain⟨xs,ys,J,m,he⟩:=U;obtain⟨ad,rv,p,_⟩:=I.list J;obtain⟨C,r,p2,_⟩:=I.list m;have l1:=rv.length;have l2:=r.length;show wpAny_pyNext_zip_end (I.ok.hd hc) D hz d g h1 t p.isList p2.isList (he.imp (fun e=>Xh (by simp;lk)) fun e=>Xh (by simp;lk)) fun h' G=>⟨rfl,I.turnedL (t':=s.toks) (fp:=[z,TI,TO,n,q]) (fun c o hc e=>?_) T⟩;simp only[yz,yM,Yt,Ka] at hc;show G c o hc.1 hc.2.2.1 hc.2.2.2.1 hc.2.2.2.2 e
 self:=fun _ _ _ _ _ st h=>kN st.1 h
theorem qc1:bootBuiltins "zip"=some (.type "zip"):=by room
def qf0(K:yg)(d:TA):TI:=fun σ H R=>d σ H fun vs c=>∃ a b xs ys,vs=[.ref a,.ref b]/\SqL K c a xs/\SqL K c b ys/\R (Itz K a b) c
theorem vZip{K:yg}{c:TA}(h:c σ H fun vs d=>∃ a b xs ys,vs=[.ref a,.ref b]/\SqL K d a xs/\SqL K d b ys/\R (Itz K a b) d):qf0 K c σ H R:=h
theorem pi_zip{X:Cx}{K:yg}{a b:Expr}{x:TA}{x1}{N p:Pos}(z:X.K=K)(B:Gl X "zip")(D:X.mg "zip"=none)(A:PA X [a,b] x)(F:starEach [a,b] X.env=[(false,eval a X.env),(false,eval b X.env)]:=by rfl)(g:starEach [b] X.env=[(false,eval b X.env)]:=by rfl):PI X (.Tuple es x1 N) (.Call (.Name "zip" p) [a,b] [] pos) (qf0 K x):=by
 subst z;intro i s σ H R I h;show Call_ (qaR I B D qc1 (Y7 (thn (A pos i s σ H _ I h) fun us f ⟨vs,y,d,L,J⟩=>?_) (by rw[F,g]) (by rw[g];rfl)));obtain⟨a,b,xs,ys,e,E,t,q⟩:=J;subst e
 cases L with
 | cons r rr =>
  cases rr with
  | cons r2 rr =>
   cases rr;cases r;cases r2;obtain⟨G,O,pl,_⟩:=d.list E;obtain⟨w,M,j,_⟩:=d.list t;have u:a<f.heap.objs.size:=by obtain⟨_,e,_⟩:=pl.isList;show yI e
   have v:b<f.heap.objs.size:=by obtain⟨_,e,_⟩:=j.isList;show yI e
   show call_zip_2 pl.isList j.isList fun h' hz l m n o hsz C=>kN hz ?_;show⟨_,[f.heap.objs.size+4,f.heap.objs.size+2,f.heap.objs.size+3,f.heap.objs.size,f.heap.objs.size+1],_,_,y,rfl,d.kept (t':=f.toks) C,turn_zip a b _ _ _ _ _ (PySem.W.ktu_apart _ _ _ u v),⟨hz,l,⟨_,_,m⟩,n,o⟩,fun c hc=>?_,q⟩;simp only[yz,yM,Yt] at hc;rcases hc with rfl | rfl | rfl | rfl | rfl
   .show d.fpOk (Xb _ _) (d.hok.fresh (Xb _ _))
   .show d.fpOk (Xb _ _) (d.hok.fresh (Xb _ _))
   .show d.fpOk (Xb _ _) (d.hok.fresh (Xb _ _))
   .show d.fpOk (yh _) (d.hok.fresh (yh _))
   .show d.fpOk (xC _) (d.hok.fresh (xC _))
def qf1(K:yg)(te:TE)(d:TO):TE:=fun σ H Q=>te σ H fun x c=>d σ c fun o b=>o=some (-1)/\∃ a xs,x=.ref a/\SqL K b a xs/\∀ p,b p=none->Q (.ref p) (upd b p (.lst xs.reverse))
theorem qfL{K:yg}{c:TO}{Q:VK}(h:te σ H fun x d=>c σ d fun o b=>o=some (-1)/\∃ a xs,x=.ref a/\SqL K b a xs/\∀ p,b p=none->Q (.ref p) (upd b p (.lst xs.reverse))):qf1 K te c σ H Q:=h
theorem qc2:∀{xs:List V} {us:List Value},Vals xs us->Vals xs.reverse us.reverse
 | _,_,.nil=>.nil
 | _,_,.cons r t=>by
  rw[List.reverse_cons,List.reverse_cons];show(qc2 t).append (.cons r .nil)
section
variable{X:Cx}{K:yg}{e st:Expr}{te:TE}{ts:TO}{p2 pos:Pos}
theorem qdG(u:X.K=K)(y:PE X e te)(z:PO X (some st) ts):PE X (.Subscript e (.Slice none none (some st) p2) pos) (qf1 K te ts):=by
 subst u;intro c s σ H Q I h;show Subscript_ (thn (y c s σ H _ I h) fun v G ⟨x,l,n,F,E⟩=>?_);show wpAny_Slice ?_;rw[evalPart_none];show yw ?_;show yw ?_;show thn (z c G σ l _ n E) fun j d ⟨o,m,p,pt,t,a,xs,ex,B,q⟩=>?_;subst t ex;cases F;have f:Inv X c σ m { d with heap:=d.heap.push { cls:=.type "slice",data:=.fields #[.none,.none,j] } }:=p.kept (t':=d.toks) fun b D q=>yu _ q;obtain⟨C,r,i,hz⟩:=f.list B;have g:=r.length;show wpAny (model X.prog X.w) X.A (subscriptTail e (.Slice none none (some st) p2) (.ref a) (.ref d.heap.objs.size)) (EP X c σ Q) X.xe { d with heap:=d.heap.push { cls:=.type "slice",data:=.fields #[.none,.none,j] } };show tail_any (ops:=[.ref a,.ref d.heap.objs.size]) i.isList.typeIs kz.lookup (wpAny_getItem_list_slice i.isList (Heap.IsSliceOf.new ..) .none .none pt (by decide) ?_ (by rw[yA]<;>lk)) (by with_unfolding_all rfl);rw[PySem.W.krv_pick];show⟨.ref _,_,f.laid (t':=d.toks) (o:=.lst xs.reverse) (fun b D q=>yu _ q) (yh _) ?_,rfl,q _ (f.hok.fresh (yh _))⟩;show⟨by rw[Yl];show hz,_,0,qc2 r,yU _ rfl⟩
end
section
variable{X:Cx}{a:Expr}{ta:TA}{p p2 pos pos2:Pos}
end
end L2
namespace L2
structure Sb(V:Nat->Prop):Prop where
 z:V 0
 a:∀ x y,V x->V y->V (x ^^^ y)
def jn(V:Nat->Prop)(x:Nat):Nat->Prop:=fun y=>V y\/V (y ^^^ x)
def Spn:LN->Nat->Prop
 | []=>fun y=>y=0
 | a::L=>jn (Spn L) a
open Classical in
def Bnd(b n v:Nat):Prop:=∀ i,v.testBit i=true->b<=i/\i<b+n
open Classical in
noncomputable def swp:Nat->Nat->LN->Nat
 | 0,_,_=>0
 | n+1,b,L=>match L.filter (fun v=>v.testBit b) with
  | []=>swp n (b+1) L
  | p::t=>1+swp n (b+1) (L.filter (fun v=>!v.testBit b)++t.map fun v=>v ^^^ p)
open Classical in
noncomputable def rk(L:LN):Nat:=swp 30 0 L
open Classical in
noncomputable def les:Nat×Nat->List (Nat×Nat)->Nat×Nat
 | s,[]=>s
 | s,o::os=>if s.1 ^^^ o.1<s.1 then les (s.1 ^^^ o.1,s.2 ^^^ o.2) os else les s os
structure Ech(os:List (Nat×Nat)):Prop where
 nz:∀ o∈os,o.1≠0
 pw:os.Pairwise fun a b=>b.1.testBit a.1.log2=false
noncomputable def csm:LN->Nat->Nat->Nat
 | [],_,_=>0
 | a::L,k,c=>(if c.testBit k then a else 0) ^^^ csm L (k+1) c
noncomputable def stp(st:List (Nat×Nat))(n v:Nat):List (Nat×Nat):=if (les (v,1 <<< n) st).1=0 then st else st++[les (v,1 <<< n) st]
structure Stp(L:LN)(n:Nat)(st:List (Nat×Nat)):Prop where
 ech:Ech st
 sum:∀ o∈st,csm L 0 o.2=o.1
 low:∀ o∈st,o.2<2 ^ n
 lt:∀ o∈st,o.1<2 ^ 30
 spn:∀ v,Spn (st.map (·.1)) v↔Spn (L.take n) v
 free:st.map (fun o=>o.2.log2)=(List.range n).filter fun i=>decide (rk (L.take i)<rk (L.take (i+1)))
 len:st.length<=n
end L2
namespace L2
open PySem PySem.Spec PyProof.Rows
variable{i j n:Nat}
section
variable{X:Cx}
end
def Fl:V->Prop
 | .non=>True
 | .bl _=>True
 | .int i=>-999999999999<=i/\i<=999999999999
 | _=>False
noncomputable def fD:V->PyData
 | .non=>.none
 | .bl b=>.bool b
 | .int i=>.int i
 | .str x=>.str x
 | _=>.none
def FlS(xs:List V):Prop:=xs.length<=1000/\∀ x∈xs,Fl x
def ShwT(H:Hp)(v:V)(t:Str):Prop:=match v with
 | .non=>t="None"
 | .bl b=>t=if b then Str.ofString "True" else Str.ofString "False"
 | .int i=>i.natAbs.log2<1920/\t=toString i
 | .str x=>(reprText x).length<=sizeLine/\t=reprText x
 | .ref p=>(∃ xs,H p=some (.lst xs)/\FlS xs/\t=(PyData.list (xs.map fD)).shown)\/∃ xs,H p=some (.tup xs)/\FlS xs/\t=(PyData.tuple (xs.map fD)).shown
 | _=>False
section
variable{X:Cx}{K:yg}
end
theorem gk_two{b:Nat}{K:yg}(o:i<b:=by decide)(p:j<b:=by decide):qdy b (qft K n (qeE (qbk i) (qeE (qbk j) qfR))):=by
 intro x t H Q ⟨a,xs,e,h,g,v,r,c,m,l,d,q⟩;obtain⟨f,q⟩:=q;show⟨a,xs,e,h,g,v,r,c,m,l,d,f,q,?_,fun k s=>?_⟩
 .rw [kc,kc]
 .rw [xr (by lk),xr (by lk)]
section
variable{K:yg}{a:Addr}{xs:List V}{g:TG}{tc:TT}{te:TE}{σ':St}{H1:Hp}{Q:V->Hp->Prop}
end
section
variable{K:yg}{a b:Addr}{xs ys:List V}{g:TG}{tc:TT}{te:TE}{σ':St}{H1:Hp}{Q:V->Hp->Prop}
theorem comp_zip(E:ys.length<=xs.length)(d:Nat->List V->Hp->Prop)(s:d 0 [] H1)(hl:∀ i c H,i<=ys.length->d i c H->SqL K H a xs/\SqL K H b ys)
  (A:∀ i x y t c H,xs[i]?=some x->ys[i]?=some y->H t=none->d i c H->g (.ref t) σ' (upd H t (.tup [x,y])) fun h o=>tc h o fun b n=>if b=true then te h n fun v r=>c.length<sizeLine/\d (i+1) (c++[v]) r else d (i+1) c n)
  (w:∀ c H,d ys.length c H->c.length<=sizeLine/\∀ p,H p=none->Q (.ref p) (upd H p (.lst c))):qdg (Itz K a b) g tc te σ' H1 Q:=by
 show⟨fun i m c H=>m=ys.length-i/\i<=ys.length/\d i c H,⟨ys.length,by simp,YW _,s⟩,?_⟩;rintro i m c H ⟨rfl,z,p⟩;obtain⟨q,l⟩:=hl i c H z p;by_cases f:i<ys.length
 .have j:i<xs.length:=by lk
  show .inr ⟨⟨xs,ys,xs[i],ys[i],q,l,by simp[j],by simp[f]⟩,d (i+1),fun ys' H' C=>⟨ys.length-(i+1),by lk,rfl,f,C⟩,fun x H' y=>?_⟩;obtain⟨t,v,u,rfl,B,rfl,y,D⟩:=y;show A i v u t c _ (y xs q) (D ys l) B p
 .have e:i=ys.length:=by lk
  subst e;show .inl ⟨⟨xs,ys,q,l,.inr (yh _)⟩,w c H p⟩
end
section
variable{X:Cx}{K:yg}
end
section
variable{X:Cx}{K:yg}{e st:Expr}{te:TE}{ts:TO}{p2 pos:Pos}
end
mutual
inductive Dat(H:Hp):V->PyData->Prop
 | non:Dat H .non .none
 | bl (b:Bool):Dat H (.bl b) (.bool b)
 | int (i:Int):Dat H (.int i) (.int i)
 | str (x:Str):Dat H (.str x) (.str x)
 | lst {a:Addr} {xs:List V} {ds:List PyData}:H a=some (.lst xs)->DatS H xs ds->Dat H (.ref a) (.list ds)
 | tup {a:Addr} {xs:List V} {ds:List PyData}:H a=some (.tup xs)->DatS H xs ds->Dat H (.ref a) (.tuple ds)
 | dnil {a:Addr}:H a=some (.dK [])->Dat H (.ref a) (.dict [])
inductive DatS(H:Hp):List V->List PyData->Prop
 | nil:DatS H [] []
 | cons {v:V} {vs:List V} {d:PyData} {ds:List PyData}:Dat H v d->DatS H vs ds->DatS H (v::vs) (d::ds)
end
structure Shw(d:PyData)(n m:Nat):Prop where
 s:d.showable=true
 l:d.leavesShort 13=true
 b:d.bulk<=n
 p:d.depth<=m
structure ShwS(ds:List PyData)(n m:Nat):Prop where
 s:PyData.showableAll ds=true
 l:PyData.leavesShortAll 13 ds=true
 b:PyData.bulkAll ds<=n
 p:PyData.depthAll ds<=m
section
variable{X:Cx}{K:yg}{pins:List (Addr×Obj)}{σ:List (Option V)}{H:Hp}{s:Shared}
end
section
variable{X:Cx}{tg elt iter:Expr}{ifs:List Expr}{scope sc1:Scope}{pos:Pos}{N N1:LS}{nl:Nat}{ixs:LN}{wi:TI}{g:TG}{tc:TT}{te:TE}{C1:Addr}{s1:Shared}{H1:Hp}{ex1:LQ}
end
section
variable{X:Cx}{K:yg}
theorem qcm{e ty:TE}{b:St}{H:Hp}{Q:VK}(h:e b H fun x c=>∃ a,x=.ref a/\IsD c a/\ty b c fun y d=>∃ o,DGet d a y o/\Q (o.getD .non) d):qei e ty b H Q:=h
end
noncomputable abbrev Cx.soft(X:Cx):Cx:={ X with calm:=false }
structure RoomW(k:Nat)(A:Around):Prop where
 dp:A.depth+3*k+5<recursionLimit
 un:A.units+16*k+200<cLine
 gd:A.guards=some []
theorem RoomW.deeper{k:Nat}{A:Around}(r:RoomW (k+1) A)(env:Env):RoomW k (A.deeper env):=
 ⟨by have:=r.dp;show A.depth+1+3*k+5<_;lk,by have:=r.un;show A.units+3+16*k+200<_;lk,r.gd⟩
theorem Room.soft{j k:Nat}{A:Around}{h:Option Value}(r:Room k A)(l:j<=k):RoomW j (A.mark h):=⟨by have:=r.dp;show A.depth+3*j+5<_;lk,by have:=r.un;show A.units+16*j+200<_;lk,r.gd⟩
structure FnOkW(P:Program)(w:World)(K:yg)(mg:Str->Option Value)(base:Heap)(k:Nat)(f:Addr)(fd:FuncData)(ps:LS)(sp:Sp):Prop where
 len:∀ vs H Q E,sp vs H Q E->vs.length=ps.length
 run:∀(A:Around) (outer:List Env) (s:Shared) (H:Hp) (args:Args) (us:List Value) (vs:List V) (Q:VK) (E:XK),RoomW k A->Env0 P w K mg base A outer s H->BindsTo s fd args (ps.zip us)->Vals vs us->sp vs H Q E ->
  codeAny (model P w) A (.call (.ref f) args) (CR CX0 outer P w H s Q E) s
structure DefOkW(P:Program)(w:World)(K:yg)(mg:Str->Option Value)(base:Heap)(k:Nat)(x:Str)(ps:LS)(sp:Sp):Prop where
 ex:∃ f fd,FnOkW P w K mg base k f fd ps sp/\mg x=some (.ref f)/\PySem.W.keepIn K (.ref f)=true/\Binds K fd ps []
section
variable{X:Cx}{k:Nat}{f C:Addr}{fd:FuncData}{ps:LS}{sp:Sp}{x m:Str}{p pos apos:Pos}{e o:Expr}{es:List Expr}{ta:TE}{t:TA}
end
section
variable{P:Program}{w:World}{K:yg}{mg:Str->Option Value}{base:Heap}
end
theorem Inv.laidM{X:Cx}{a:List (Addr×Obj)}{f:St}{H H':Hp}{s:Shared}{h':Heap}{t':Nat}(I:Inv X a f H s)(k:∀ b u,s.heap.get? b=some u->h'.get? b=some u)
  (d:∀ b,b<s.heap.objs.size->H' b=H b) (new:∀ b u,s.heap.objs.size<=b->H' b=some u->ObjOk X.prog X.w H' h' b u):Inv X a f H' { s with heap:=h',toks:=t' }:=by
 have lt:∀ b u,H b=some u->b<s.heap.objs.size:=fun b u e=>kO fun z=>by rw[I.hok.fresh z] at e;cases e
 have up:∀ b u,H b=some u->H' b=some u:=fun b u e=>(d b (lt b u e)).trans e;show I.step (g':=s.gens) (d':=s.drawn) (ch:=[]) (fun b hb=>by simp at hb) (fun b o _ _ _ e _=>k b o e) (fun b o _ _ _ e _=>⟨o.slots,k b o e⟩) (fun b o _ e n=>(d b (yI e)).trans n)
  (fun b o _ e=>⟨o,k b o e⟩) (fun b xs e=>up b _ e) (fun b _ _ e=>up b _ e) (fun b h e=>⟨#[],by rw[up b _ e];simp⟩) (fun m ⟨o,es,ep,g,r⟩=>⟨o,es,ep,k _ o g,r⟩) (fun b u e=>?_) I.bare
 by_cases hb:s.heap.objs.size<=b
 .show new b u hb e
 .rw [d b (kO hb)] at e;show(I.hok b u e).stay (fun c v _ q=>k c v q) (fun c q=>up c _ q) fun c xs q=>up c _ q
section
variable{prog:Program}{w:World}{A:Around}{E:Value->Shared->Prop}{s:Shared}
theorem alive_{a:Addr}{Q:Option Obj->Shared->Prop}(h:Q (s.heap.get? a) s):wpAny (model prog w) A (loadIfAlive a) Q E s:=fun b p _=>by
 show Sem.wp _ _ (.loadIfAlive a .pure) _ _ _ _;rw[Sem.wp_loadIfAlive];simpa using h
abbrev qeW(h:Heap)(z TI TO:Addr)(b:Value)(a:Bool):Prop:=h.get? z=some { cls:=.type "zip",dict:=none,data:=.fields #[b,.bool a,.bool false,.ref TI,.ref TO],slots:=#[] }
theorem qfl{z TI TO T:Addr}{a:Bool}{f:Obj}{Q:Bool->Shared->Prop}(hz:qeW s.heap z TI TO (rawInt T) a)(d:s.heap.get? T=some f)
  (b:∀ h',qeW h' z TI TO (rawInt T) true->Heap.SameBut z s.heap h'->Q false { s with heap:=h' }):wpAny (model prog w) A (Builtin.SmallTypes.ownedTupleIsFree (.ref z)) Q E s:=by
 unfold Builtin.SmallTypes.ownedTupleIsFree;show yr (xk hz rfl (x:=rawInt T) rfl ?_);show wpAny _ _ (loadIfAlive T>>=_) _ _ _;show yr (alive_ ?_);rw[d];show wpAny _ _ (field (.ref z) 1>>=_) _ _ _;show yr (xk hz rfl (x:=.bool a) rfl ?_)
 cases a with
 | true=>show yw (b _ hz ⟨rfl,fun _ _=>rfl⟩)
 | false =>
  show wpAny _ _ (setField (.ref z) 1 (.bool true)>>=_) _ _ _;show yr (wpAny_setField_rec hz (by simp) fun h1 c e=>yw (b h1 c e))
theorem znx{z TI TO d f a b T:Addr}{C:Bool}{L:Obj}{q r:Nat}{xs ys:Array Value}{x y:Value}{Q:Value->Shared->Prop}(D:ZipApart z TI TO d f a b)
  (hz:qeW s.heap z TI TO (rawInt T) C) (H:s.heap.get? T=some L) (m:IsPair s.heap TI (.ref d) (.ref f))
  (h1:s.heap.IsListIter d a q) (F:s.heap.IsListIter f b r) (n:s.heap.IsList a xs) (p:s.heap.IsList b ys) (I:xs[q]?=some x) (J:ys[r]?=some y)
  (G:∀ h',qeW h' z TI TO (rawInt T) true->h'.IsListIter d a (q+1)->h'.IsListIter f b (r+1)->IsPair h' s.heap.objs.size x y->h'.objs.size=s.heap.objs.size+1 ->
   (∀ c o,c≠z->c≠d->c≠f->s.heap.get? c=some o->h'.get? c=some o)->Q (.ref s.heap.objs.size) { s with heap:=h' }) :
  wpAny (model prog w) A (Builtin.«zip.__next__» ⟨[.ref z],[]⟩) (fun j s'=>∃ v,j=.done (.ret v)/\Q v s') E s:=by
 show wpAny _ _ (field (.ref z) 2>>=_) _ _ _;show yr <| xk hz rfl (x:=.bool false) rfl ?_;show wpAny _ _ (field (.ref z) 3>>=_) _ _ _;show yr <| xk hz rfl (x:=.ref TI) rfl ?_;show yr <| wpAny_seqItems m rfl ?_;show wpAny _ _ (Builtin.SmallTypes.ownedTupleIsFree _>>=_) _ _ _;show yr <| qfl hz H fun P O g=>?_;simp only[xI,XS];show yr ?_;rw[<- Array.forIn_toList];simp only[kY,k8];show yr (yr (Yn ?_));show wpAny _ _ (Builtin.SmallTypes.nextOf (.ref d)>>=_) _ _ _;show yr <| XV (h1.extBut g.extBut D.i1z) (n.extBut g.extBut D.l1z) I fun R M h=>yw (yw ?_);show yr (yr (Yn ?_));show wpAny _ _ (Builtin.SmallTypes.nextOf (.ref f)>>=_) _ _ _;show yr <| XV ((F.extBut g.extBut D.i2z).extBut h.extBut D.i12.symm) ((p.extBut g.extBut D.l2z).extBut h.extBut D.l2i1) J fun l N i=>yw (yw (yw ?_));show yr (wpAny_newTuple (yw ⟨_,rfl,?_⟩) (by show 2<=sizeLine;decide));have es:l.objs.size=s.heap.objs.size:=by rw[i.1,h.1,g.1]
 have K:∀ c o,c≠z->c≠d->c≠f->s.heap.get? c=some o->l.get? c=some o:=fun c o t u B e=>i.extBut _ _ B (h.extBut _ _ u (g.extBut _ _ t e));rw[show(Value.ref l.objs.size)=.ref s.heap.objs.size by rw[es]];show G _ (yu _ (i.extBut _ _ D.i2z.symm (h.extBut _ _ D.i1z.symm O))) ((M.extBut i.extBut D.i12).at fun o e=>yu _ e) (N.at fun o e=>yu _ e) ?_ (by rw[YI,es]) fun c o t u B e=>yu _ (K c o t u B e);rw[<- es];show yU _ rfl
theorem zne{z TI TO h i a b T:Addr}{F:Bool}{L:Obj}{r t:Nat}{xs ys:Array Value}{Q:Fin->Shared->Prop}(C:A.handled=none)(D:ZipApart z TI TO h i a b)
  (hz:qeW s.heap z TI TO (rawInt T) F) (I:s.heap.get? T=some L) (l:IsPair s.heap TI (.ref h) (.ref i))
  (h1:s.heap.IsListIter h a r) (H:s.heap.IsListIter i b t) (g:s.heap.IsList a xs) (n:s.heap.IsList b ys) (f:xs[r]?=none\/ys[t]?=none)
  (B:∀ h' e,(∀ c o,c≠z->c≠h->c≠i->s.heap.get? c=some o->h'.get? c=some o)->(∃ o,h'.get? e=some o/\o.cls=.type "StopIteration")->E (.ref e) { s with heap:=h' }) :
  wpAny (model prog w) A (Builtin.«zip.__next__» ⟨[.ref z],[]⟩) Q E s:=by
 show wpAny _ _ (field (.ref z) 2>>=_) _ _ _;show yr <| xk hz rfl (x:=.bool false) rfl ?_;show wpAny _ _ (field (.ref z) 3>>=_) _ _ _;show yr <| xk hz rfl (x:=.ref TI) rfl ?_;show yr <| wpAny_seqItems l rfl ?_;show wpAny _ _ (Builtin.SmallTypes.ownedTupleIsFree _>>=_) _ _ _;show yr <| qfl hz I fun N P d=>?_;simp only[xI,XS];show yr ?_;rw[<- Array.forIn_toList];simp only[kY,k8];show yr (yr (Yn ?_));show wpAny _ _ (Builtin.SmallTypes.nextOf (.ref h)>>=_) _ _ _
 cases p:xs[r]? with
 | none=>show yr <| wpAny_nextOf_list_end C (h1.extBut d.extBut D.i1z) (g.extBut d.extBut D.l1z) p fun y e j m=>B y e (fun c o u v _ q=>j _ _ v (d.extBut _ _ u q)) m
 | some x =>
  have J:ys[t]?=none:=f.elim (fun z=>by rw[p] at z;cases z) id;show yr <| XV (h1.extBut d.extBut D.i1z) (g.extBut d.extBut D.l1z) p fun y O j=>yw (yw ?_);show yr (yr (Yn ?_));show wpAny _ _ (Builtin.SmallTypes.nextOf (.ref i)>>=_) _ _ _;show yr <| wpAny_nextOf_list_end C ((H.extBut d.extBut D.i2z).extBut j.extBut D.i12.symm) ((n.extBut d.extBut D.l2z).extBut j.extBut D.l2i1) J fun G e M m=>B G e (fun c o u v K q=>M _ _ K (j.extBut _ _ v (d.extBut _ _ u q))) m
def ZAt(z TI TO N:Nat)(h:Heap):Prop:=IsZip h z TI TO .none\/∃ T a o,N<=T/\qeW h z TI TO (rawInt (T:Nat)) a/\h.get? T=some o
theorem ZAt.typ{z TI TO N:Nat}(h:ZAt z TI TO N s.heap):s.TypeIs (.ref z) "zip":=by
 rcases h with e | ⟨_,_,_,_,e,_⟩<;>show⟨_,e,rfl⟩
theorem znx_any{z TI TO h i a b N:Addr}{G H:Nat}{xs ys:Array Value}{x y:Value}{Q:Option Value->Shared->Prop}(D:ZipApart z TI TO h i a b)(O:N<=s.heap.objs.size)
  (hz:ZAt z TI TO N s.heap) (l:IsPair s.heap TI (.ref h) (.ref i)) (d:∃ u v,IsPair s.heap TO u v)
  (h1:s.heap.IsListIter h a G) (I:s.heap.IsListIter i b H) (m:s.heap.IsList a xs) (n:s.heap.IsList b ys) (K:xs[G]?=some x) (L:ys[H]?=some y) (f:z<N/\h<N/\i<N)
  (J:∀ h',ZAt z TI TO N h'->(∃ u v,IsPair h' TO u v)->h'.IsListIter h a (G+1)->h'.IsListIter i b (H+1)->IsPair h' s.heap.objs.size x y->h'.objs.size=s.heap.objs.size+1 ->
   (∀ c o,c≠z->c≠TO->c≠h->c≠i->s.heap.get? c=some o->h'.get? c=some o)->Q (some (.ref s.heap.objs.size)) { s with heap:=h' }) :
  wpAny (model prog w) A (pyNext (.ref z)) Q E s:=by
 obtain⟨u,v,d⟩:=d;have typ:=hz.typ;rcases hz with hz | ⟨T,b1,o,hT,hz,ho⟩
 .show wpAny_pyNext_zip_item D hz l d h1 I m n K L fun g r M t B p C j=>J g (.inr ⟨s.heap.objs.size,false,_,O,r,p⟩) ⟨_,_,M⟩ t B p C j
 .unfold pyNext;show yr (X4 (XI (name:=Str.ofString "__next__") typ ki (X2 ki typ F.entry_zip_next (znx D hz ho l h1 I m n K L fun g r t B p C j=>yw ?_) (F.args_zip_next_1 _))));show J g (.inr ⟨T,true,o,hT,r,j _ _ (Yg (yj f.1 hT)) (Yg (yj f.2.1 hT)) (Yg (yj f.2.2 hT)) ho⟩) ⟨_,_,j _ _ D.TOz D.TOi1 D.TOi2 d⟩ t B p C fun c q P _ R S e=>j c q P R S e
theorem zne_any{z TI TO l m a b N:Addr}{t x:Nat}{xs ys:Array Value}{Q:Option Value->Shared->Prop}(r:A.handled=none)(D:ZipApart z TI TO l m a b)
  (hz:ZAt z TI TO N s.heap) (h:IsPair s.heap TI (.ref l) (.ref m)) (f:∃ u v,IsPair s.heap TO u v)
  (h1:s.heap.IsListIter l a t) (n:s.heap.IsListIter m b x) (i:s.heap.IsList a xs) (j:s.heap.IsList b ys) (d:xs[t]?=none\/ys[x]?=none)
  (p:∀ h',(∀ c o,c≠z->c≠TO->c≠l->c≠m->s.heap.get? c=some o->h'.get? c=some o)->Q none { s with heap:=h' }):wpAny (model prog w) A (pyNext (.ref z)) Q E s:=by
 obtain⟨u,v,f⟩:=f;have typ:=hz.typ;rcases hz with hz | ⟨T,b1,o,hT,hz,ho⟩
 .show wpAny_pyNext_zip_end r D hz h f h1 n i j d p
 .unfold pyNext;show yr (X4 (XI (name:=Str.ofString "__next__") typ ki (X2 ki typ F.entry_zip_next (zne r D hz ho h h1 n i j d fun g e k y=>?_) (F.args_zip_next_1 _))));obtain⟨q,B,hc⟩:=y;show yr (wpAny_isInstance (T:="StopIteration") (b:=true) ⟨q,B,hc⟩ isSubtype_stop ?_);show yw (p _ fun c o C _ G H e=>k c o C G H e)
end
structure LZ(z TI TO i1 i2 a b S N:Nat)(xs ys:Array Value)(h0:Heap)(i:Nat)(acc:Array Value)(c:Nat)(h:Heap):Prop where
 zp:ZAt z TI TO N h
 ti:IsPair h TI (.ref i1) (.ref i2)
 tO:∃ u v,IsPair h TO u v
 j1:h.IsListIter i1 a i
 j2:h.IsListIter i2 b i
 la:h.IsList a xs
 lb:h.IsList b ys
 ls:h.get? S=some { cls:=.type "list",dict:=none,data:=.seq acc c,slots:=#[] }
 sz:N<=h.objs.size
 len:acc.size=i
 its:∀(j:Nat) v,acc[j]?=some v->∃ t x y,v=.ref t/\N<=t/\IsPair h t x y/\xs[j]?=some x/\ys[j]?=some y
 nd:∀(j k:Nat) v,acc[j]?=some v->acc[k]?=some v->j=k
 kp:∀ q o,q<N->q≠z->q≠TO->q≠i1->q≠i2->q≠S->h0.get? q=some o->h.get? q=some o
structure LE(z TO i1 i2 S N:Nat)(xs ys:Array Value)(h0:Heap)(n:Nat)(acc:Array Value)(c:Nat)(h:Heap):Prop where
 ls:h.get? S=some { cls:=.type "list",dict:=none,data:=.seq acc c,slots:=#[] }
 len:acc.size=n
 its:∀(j:Nat) v,acc[j]?=some v->∃ t x y,v=.ref t/\N<=t/\IsPair h t x y/\xs[j]?=some x/\ys[j]?=some y
 nd:∀(j k:Nat) v,acc[j]?=some v->acc[k]?=some v->j=k
 kp:∀ q o,q<N->q≠z->q≠TO->q≠i1->q≠i2->q≠S->h0.get? q=some o->h.get? q=some o
structure LA(z TI TO i1 i2 a b S N:Nat):Prop where
 D:ZipApart z TI TO i1 i2 a b
 lt:z<S/\TI<S/\TO<S/\i1<S/\i2<S/\a<S/\b<S
 S:S<N
theorem LZ.at{z TI TO g l a b S N:Nat}{xs ys:Array Value}{w h h':Heap}{i c r:Nat}{acc d:Array Value}(L:LA z TI TO g l a b S N)(x:LZ z TI TO g l a b S N xs ys w i acc c h)
  (k:Heap.SameBut S h h') (R:h'.get? S=some { cls:=.type "list",dict:=none,data:=.seq d r,slots:=#[] }) (len:d.size=i) (m:∀(j:Nat) v,d[j]?=some v->∃ t x y,v=.ref t/\N<=t/\IsPair h t x y/\xs[j]?=some x/\ys[j]?=some y) (nd:∀(j k:Nat) v,d[j]?=some v->d[k]?=some v->j=k):LZ z TI TO g l a b S N xs ys w i d r h':=by
 obtain⟨l1,l2,J,K,M,O,P⟩:=L.lt;have A:=L.S;have f:∀{q o},q≠S->h.get? q=some o->h'.get? q=some o:=fun n e=>k.extBut _ _ n e;show⟨?_,f (yJ l2) x.ti,?_,x.j1.at fun o e=>f (yJ K) e,x.j2.at fun o e=>f (yJ M) e,x.la.extBut k.extBut (yJ O),x.lb.extBut k.extBut (yJ P),R,by rw[k.1];show x.sz,len,fun j v e=>?_,nd,fun q o B C D E F p e=>f p (x.kp q o B C D E F p e)⟩
 .rcases x.zp with e | ⟨T,b1,o,hT,e,eo⟩
  .show .inl (f (yJ l1) e)
  .show .inr ⟨T,b1,o,hT,f (yJ l1) e,f (Yg (yj A hT)) eo⟩
 .obtain⟨u,v,e⟩:=x.tO;show⟨u,v,f (yJ J) e⟩
 .obtain⟨t,u,v,G,s,H,I⟩:=m j v e;show⟨t,u,v,G,s,f (Yg (yj A s)) H,I⟩
section
variable{prog:Program}{w:World}{A:Around}{R:Result->Shared->Prop}{z TI TO i1 i2 a b S N:Nat}{xs ys:Array Value}{h0:Heap}
theorem zloop(hh:A.handled=none)(L:LA z TI TO i1 i2 a b S N)(hn:min xs.size ys.size<=2 ^ 24)(res:Value):∀(k i:Nat) (s:Shared) (acc:Array Value) (c:Nat),min xs.size ys.size-i=k->i<=min xs.size ys.size->LZ z TI TO i1 i2 a b S N xs ys h0 i acc c s.heap ->
  (∀ h' M O,LE z TO i1 i2 S N xs ys h0 (min xs.size ys.size) M O h'->R (.ok (.ret res)) { s with heap:=h' })->codeAny (model prog w) A (.builtin "list.extend.loop" ⟨[.ref S,.ref z,res],[]⟩) R s:=by
 have C:=L.S;obtain⟨l1,l2,U,E,G,l6,l7⟩:=L.lt;have p:∀{t q:Nat},N<=t->q<S->t≠q:=fun h1 h2=>by lk
 intro k
 induction k with
 | zero =>
  intro i s acc c hk hi x hR;show XF F.entry_extend_loop ?_;rw[Xv XB _];show wpAny _ A.in1 (pyNext _>>=_) _ _ s
  have he:xs[i]?=none\/ys[i]?=none:=by
   rcases Nat.le_total xs.size ys.size with q | q
   .show .inl (Xh (by lk))
   .show .inr (Xh (by lk))
  show yr (zne_any hh L.D x.zp x.ti x.tO x.j1 x.j2 x.la x.lb he fun h' l=>yw (hR h' acc c ⟨?_,by rw[x.len];lk,fun j v e=>?_,x.nd,fun q o H y I J K X e=>l q o y I J K (x.kp q o H y I J K X e)⟩))
  .show l S _ (Yg l1) (Yg U) (Yg E) (Yg G) x.ls
  .obtain⟨t,u,v,m,g,e3,e4⟩:=x.its j v e;show⟨t,u,v,m,g,l t _ (p g l1) (p g U) (p g E) (p g G) e3,e4⟩
 | succ k ih =>
  intro i s acc c hk hi x hR;show XF F.entry_extend_loop ?_;rw[Xv XB _];show wpAny _ A.in1 (pyNext _>>=_) _ _ s;obtain⟨u,hu⟩:∃ u,xs[i]?=some u:=⟨_,xn (by lk)⟩;obtain⟨v,hv⟩:∃ v,ys[i]?=some v:=⟨_,xn (by lk)⟩;show yr (znx_any L.D x.sz x.zp x.ti x.tO x.j1 x.j2 x.la x.lb hu hv ⟨kR l1 C,kR E C,kR G C⟩ fun h1 z1 ab m g eP Z l=>?_);have P:=l S _ (Yg l1) (Yg U) (Yg E) (Yg G) x.ls;show wpAny _ A.in1 (updateSeq S (·.push (.ref s.heap.objs.size))>>=_) _ _ _;have f:=x.len;have hN:=x.sz
  have W:∀ j:Nat,acc[j]?≠some (.ref s.heap.objs.size):=fun j e=>by
   obtain⟨t,Y,w',q1,B,q3,_⟩:=x.its j _ e;cases q1;show absurd (yI q3) (Yu _)
  have aa:∀(j k:Nat) r,(acc.push (.ref s.heap.objs.size))[j]?=some r->(acc.push (.ref s.heap.objs.size))[k]?=some r->j=k:=fun j k r m g=>by
   rw[Array.getElem?_push] at m g;split at m<;>split at g
   .rename_i H y;rw[H,y]
   .cases m;show absurd g (W k)
   .cases g;show absurd m (W j)
   .show x.nd j k r m g
  obtain⟨O,ac⟩:∃ O,(h1.update S (Obj.mapSeq (·.push (.ref s.heap.objs.size)))).get? S=some { cls:=.type "list",dict:=none,data:=.seq (acc.push (.ref s.heap.objs.size)) O,slots:=#[] }:=⟨_,Yy (Obj.mapSeq (·.push (.ref s.heap.objs.size))) P rfl⟩;show yr (kj P rfl (yw ⟨plainId_quiet XB _,ih (i+1) _ (acc.push (.ref s.heap.objs.size)) O (by lk) (by lk) ?_ hR⟩) ?_ ?_)
  .have sb:Heap.SameBut S h1 (h1.update S (Obj.mapSeq (·.push (.ref s.heap.objs.size)))):=xA ..;have h:∀{q o},q≠S->h1.get? q=some o->(h1.update S (Obj.mapSeq (·.push (.ref s.heap.objs.size)))).get? q=some o:=fun n e=>sb.extBut _ _ n e;show⟨?_,h (yJ l2) (l _ _ L.D.TIz L.D.TITO L.D.TIi1 L.D.TIi2 x.ti),?_,m.at fun o e=>h (yJ E) e,g.at fun o e=>h (yJ G) e,?_,?_,ac,by rw[sb.1,Z];lk,by rw[Array.size_push,f],fun j r e=>?_,aa,fun q o H y I J K X e=>h X (l q o y I J K (x.kp q o H y I J K X e))⟩
   .rcases z1 with e | ⟨T,b1,o,hT,e,eo⟩
    .show .inl (h (yJ l1) e)
    .show .inr ⟨T,b1,o,hT,h (yJ l1) e,h (Yg (yj C hT)) eo⟩
   .obtain⟨Y,r,e⟩:=ab;show⟨Y,r,h (yJ U) e⟩
   .obtain⟨o,e,d⟩:=x.la;show⟨o,h (yJ l6) (l _ _ L.D.l1z L.D.l1TO L.D.l1i1 L.D.l1i2 e),d⟩
   .obtain⟨o,e,d⟩:=x.lb;show⟨o,h (yJ l7) (l _ _ L.D.l2z L.D.l2TO L.D.l2i1 L.D.l2i2 e),d⟩
   .rw [Array.getElem?_push] at e;split at e
    .rename_i ej
     cases e;rw[ej,f];show⟨_,u,v,rfl,hN,h (Yg (yj C hN)) eP,hu,hv⟩
    .obtain⟨t,Y,w',q1,B,q3,q4⟩:=x.its j r e;show⟨t,Y,w',q1,B,h (Yg (yj C B)) (l t _ (p B l1) (p B U) (p B E) (p B G) q3),q4⟩
  .rw [f,YA];lk
  .show(acc.push _).size<=sizeLine+1;rw[Array.size_push,f,YA];lk
theorem zip_len0:typeLookup (.type "zip") "__len__"=pure none:=by rw[typeLookup_type,builtinLookup_eq_fast];kernel_rfl
theorem zip_hint0:typeLookup (.type "zip") "__length_hint__"=pure none:=by rw[typeLookup_type,builtinLookup_eq_fast];kernel_rfl
theorem zext{s:Shared}{o:Nat}(t:A.handled=none)(L:LA z TI TO i1 i2 a b S N)(u:min xs.size ys.size<=2 ^ 24)(res:Value)(hz:IsZip s.heap z TI TO .none)(x:LZ z TI TO i1 i2 a b S N xs ys h0 0 #[] o s.heap)
  (r:∀ h' c d,LE z TO i1 i2 S N xs ys h0 (min xs.size ys.size) c d h'->R (.ok (.ret res)) { s with heap:=h' }) :
  wpAny (model prog w) A.in1 (Builtin.List.listExtendWith (.ref S) (.ref z) res) (fun g s'=>match g with | .done f=>R (.ok f) s' | .again d=>d.quiet=true/\codeAny (model prog w) A d R s') (fun e s'=>R (.error e) s') s:=by
 obtain⟨l1,_⟩:=L.lt;have typ:s.TypeIs (.ref z) "zip":=⟨_,hz,rfl⟩;unfold Builtin.List.listExtendWith;show yr <| wpAny_typeOf typ ?_;have y:Builtin.List.listSameRef (.ref S) (.ref z)=false:=by simp[Builtin.List.listSameRef,Yg l1]
 have m:(Value.type "zip"==.type "list")=false/\(Value.type "zip"==.type "tuple")=false:=by decide
 simp only[y,m.1,m.2,kF,xI,XS];show yr <| kN hz <| yr <| Yn ?_;unfold Builtin.List.listLengthHint;show yr <| wpAny_specialOf typ zip_len0 ?_;show wpAny _ _ (specialOf (Value.ref z) (Str.ofString "__length_hint__")>>=_) _ _ _;show yr <| wpAny_specialOf typ zip_hint0 <| yw ?_;show wpAny _ _ (rule "list.extend.makes-room">>=fun _=>Builtin.List.listTouch (.ref S)>>=fun _=>again (.builtin "list.extend.loop" ⟨[.ref S,.ref z,res],[]⟩)) _ _ _;show yr <| kU <| yr ?_;show wpAny _ _ (updateSeq S (·.push .none)>>=fun _=>updateSeq S (·.pop)) _ _ _;show yr <| kj x.ls rfl ?_;have h:=Yy (Obj.mapSeq (·.push Value.none)) x.ls rfl;show kj (hz:=by seq_fits) h rfl ?_;have p:=Yy (Obj.mapSeq (·.pop)) h rfl
 have B:Heap.SameBut S s.heap ((s.heap.update S (Obj.mapSeq (·.push Value.none))).update S (Obj.mapSeq (·.pop))):=by
  have i:Heap.SameBut S s.heap (s.heap.update S (Obj.mapSeq (·.push Value.none))):=xA ..;have l:Heap.SameBut S (s.heap.update S (Obj.mapSeq (·.push Value.none))) ((s.heap.update S (Obj.mapSeq (·.push Value.none))).update S (Obj.mapSeq (·.pop))):=xA ..;show⟨l.1.trans i.1,fun q n=>(l.2 q n).trans (i.2 q n)⟩
 show yw ⟨plainId_quiet XB _,zloop t L u res _ 0 _ #[] _ rfl (YW _) (x.at L B p rfl (fun j v e=>by simp at e) fun j k v e=>by simp at e) r⟩
theorem zinit{s:Shared}{i:Nat}(n:A.handled=none)(L:LA z TI TO i1 i2 a b S N)(o:min xs.size ys.size<=2 ^ 24)(hz:IsZip s.heap z TI TO .none)(x:LZ z TI TO i1 i2 a b S N xs ys h0 0 #[] i s.heap)
  (m:∀ h' c d,LE z TO i1 i2 S N xs ys h0 (min xs.size ys.size) c d h'->R (.ok (.ret .none)) { s with heap:=h' }) :
  wpAny (model prog w) A.in1 (Builtin.«list.__init__» ⟨[.ref S,.ref z],[]⟩) (fun g s'=>match g with | .done f=>R (.ok f) s' | .again d=>d.quiet=true/\codeAny (model prog w) A d R s') (fun e s'=>R (.error e) s') s:=by
 obtain⟨l1,_⟩:=L.lt;show wpAny _ _ (do let old <- Builtin.List.listItems (.ref S);Builtin.List.listUpdate (.ref S) (fun _=>#[]);letGo old.toList.reverse;Builtin.List.listExtendWith (.ref S) (.ref z) .none) _ _ s;show yr ?_;unfold Builtin.List.listItems;show yr <| wpAny_seqItems x.ls rfl <| yw ?_;show wpAny _ _ (updateSeq S (fun _=>#[])>>=fun _=>letGo _>>=fun _=>Builtin.List.listExtendWith (.ref S) (.ref z) .none) _ _ s;show yr <| kj x.ls rfl ?_;have l:=Yy (Obj.mapSeq (fun _=>(#[]:Array Value))) x.ls rfl;have h:Heap.SameBut S s.heap (s.heap.update S (Obj.mapSeq (fun _=>(#[]:Array Value)))):=xA ..;show yr <| wpAny_letGo ?_;show zext n L o .none (h.extBut _ _ (yJ l1) hz) (x.at L h l rfl (fun j v e=>by simp at e) fun j k v e=>by simp at e) m
end
section
variable{prog:Program}{w:World}{A:Around}{E:Value->Shared->Prop}{s:Shared}
theorem call_list_zip{z TI TO h i a b:Nat}{xs ys:Array Value}{Q:Value->Shared->Prop}(H:A.handled=none)(D:ZipApart z TI TO h i a b)(I:min xs.size ys.size<=2 ^ 24)(hz:IsZip s.heap z TI TO .none)(l:IsPair s.heap TI (.ref h) (.ref i))(f:∃ u v,IsPair s.heap TO u v)
  (h1:s.heap.IsListIter h a 0) (y:s.heap.IsListIter i b 0) (m:s.heap.IsList a xs) (n:s.heap.IsList b ys)
  (G:∀ h' c t,LE z TO h i s.heap.objs.size (s.heap.objs.size+1) xs ys s.heap (min xs.size ys.size) c t h'->Q (.ref s.heap.objs.size) { s with heap:=h' }):wpAny (model prog w) A (call (.type "list") [.ref z]) Q E s:=by
 show callType_codes (Q₁:=fun r g=>r=.ref s.heap.objs.size/\g={ s with heap:=s.heap.push { cls:=.type "list",data:=.seq #[] } }) F.called_list (F.typeCall_list_1 _) F.entry_list_init (code_list_new _ ⟨rfl,rfl⟩) fun r g p=>?_;obtain⟨rfl,rfl⟩:=p;have B:(s.heap.push { cls:=.type "list",data:=.seq #[] }).get? s.heap.objs.size=some { cls:=.type "list",data:=.seq #[] }:=yU _ rfl;have up:∀{q o},s.heap.get? q=some o->(s.heap.push { cls:=.type "list",data:=.seq #[] }).get? q=some o:=fun e=>yu _ e;have lt:∀{q o},s.heap.get? q=some o->q<s.heap.objs.size:=fun e=>yI e;obtain⟨u,v,f⟩:=f
 have L:LA z TI TO h i a b s.heap.objs.size (s.heap.objs.size+1):=by
  show⟨D,⟨lt hz,lt l,lt f,?_,?_,?_,?_⟩,Xx _⟩
  .obtain⟨_,e,_⟩:=h1;show lt e
  .obtain⟨_,e,_⟩:=y;show lt e
  .obtain⟨_,e,_⟩:=m;show lt e
  .obtain⟨_,e,_⟩:=n;show lt e
 have x:LZ z TI TO h i a b s.heap.objs.size (s.heap.objs.size+1) xs ys s.heap 0 #[] 0 (s.heap.push { cls:=.type "list",data:=.seq #[] }):=by
  show⟨.inl (up hz),up l,⟨u,v,up f⟩,h1.at fun o e=>up e,y.at fun o e=>up e,?_,?_,B,by rw[YI];show yh _,rfl,fun j v e=>by simp at e,fun j k v e=>by simp at e,fun q o _ _ _ _ _ _ e=>up e⟩
  .obtain⟨o,e,d⟩:=m;show⟨o,up e,d⟩
  .obtain⟨o,e,d⟩:=n;show⟨o,up e,d⟩
 show⟨⟨_,B,rfl⟩,F.args_list_init_2 _ _,zinit (A:=A.in1) H L I (up hz) x fun h' c t C=>⟨rfl,G h' c t C⟩⟩
end
structure Zl(H H':Hp)(l:Addr)(ts:LQ)(xs ys:List V):Prop where
 sm:L2.Same H H'
 fl:H l=none
 ls:H' l=some (.lst (ts.map V.ref))
 len:ts.length=min xs.length ys.length
 tp:∀(j:Nat) t,ts[j]?=some t->H t=none/\∃ x y,xs[j]?=some x/\ys[j]?=some y/\H' t=some (.tup [x,y])
theorem qfm(H:Hp):∀(a:LQ) (xs ys:List V),a.Nodup->a.length<=xs.length->a.length<=ys.length->∃ G:Hp,(∀(j:Nat) t x y,a[j]?=some t->xs[j]?=some x->ys[j]?=some y->G t=some (.tup [x,y]))/\∀ q,q∉a->G q=H q
 | [],_,_,_,_,_=>⟨H,fun j t x y e=>by simp at e,fun _ _=>rfl⟩
 | t::a,[],_,_,h,_=>by simp at h
 | t::a,_::_,[],_,_,h=>by simp at h
 | t::a,x::xs,y::ys,nd,h1,h2=>by
  obtain⟨m,n⟩:=yo.mp nd;obtain⟨G,i,l⟩:=qfm H a xs ys n (by simpa using h1) (by simpa using h2);show⟨upd G t (.tup [x,y]),fun j t' o p c d f=>?_,fun q g=>?_⟩
  .cases j with
   | zero=>simp at c d f;subst c d f;show qb
   | succ j =>
    have b:a[j]?=some t':=by simpa using c
    rw[qf fun z=>m (by rw[<- z];show ye b)];show i j t' o p b (by simpa using d) (by simpa using f)
  .rw [qf fun z=>g (by rw[z];show yY)];show l q fun z=>g (yN _ z)
noncomputable def refN:Value->Nat
 | .ref a=>a
 | _=>0
def tLZ(K:yg)(d:TA):TE:=fun f H Q=>d f H fun vs c=>∃ a b xs ys,vs=[.ref a,.ref b]/\SqL K c a xs/\SqL K c b ys/\xs.length<=1000/\∀ l e H',Zl c H' l e xs ys->Q (.ref l) H'
theorem vLZ{K:yg}{d:TA}{e:St}{H:Hp}{Q:VK}(h:d e H fun vs c=>∃ a b xs ys,vs=[.ref a,.ref b]/\SqL K c a xs/\SqL K c b ys/\xs.length<=1000/\∀ l f H',Zl c H' l f xs ys->Q (.ref l) H'):tLZ K d e H Q:=h
theorem qcI{X:Cx}{K:yg}{a b:Expr}{ta:TA}{p p2 ao f:Pos}(hK:X.K=K)(hc:X.calm=true)(hg:Gl X "list")(ag:Gl X "zip")(F:X.mg "list"=none)(ak:X.mg "zip"=none)(ha:PA X [a,b] ta)(hs:starEach [a,b] X.env=[(false,eval a X.env),(false,eval b X.env)]:=by rfl)(P:starEach [b] X.env=[(false,eval b X.env)]:=by rfl)
  (he:starEach [.Call (.Name "zip" p2) [a,b] [] f] X.env=[(false,eval (.Call (.Name "zip" p2) [a,b] [] f) X.env)]:=by rfl):PE X (.Call (.Name "list" p) [.Call (.Name "zip" p2) [a,b] [] f] [] ao) (tLZ K ta):=by
 subst hK;intro Z s σ H Q I h;show Call_ (qaR I hg F Xz (Y7 (T:="list") ?_ he rfl));rw[he];show wpAny _ _ (spliced ((false,eval (.Call (.Name "zip" p2) [a,b] [] f) X.env)::[])) _ _ s;show kq ?_;show Call_ (qaR I ag ak qc1 (Y7 (thn (ha f Z s σ H _ I h) fun us w ⟨vs,H1,A,r1,q1⟩=>?_) (by rw[hs,P]) (by rw[P];rfl)));obtain⟨a,b,xs,ys,e,hq,al,hx,q⟩:=q1;subst e
 cases r1 with
 | cons r rr =>
  cases rr with
  | cons r2 rr =>
   cases rr;cases r;cases r2;obtain⟨C,rv,pl,_⟩:=A.list hq;obtain⟨l,aa,D,_⟩:=A.list al;have am:a<w.heap.objs.size:=by obtain⟨_,e,_⟩:=pl.isList;show yI e
   have an:b<w.heap.objs.size:=by obtain⟨_,e,_⟩:=D.isList;show yI e
   have l1:=rv.length;have l2:=aa.length;show call_zip_2 pl.isList D.isList fun h1 hz ae af ah ai hsz hk=>ky ?_;have la:h1.IsList a C.toArray:=by obtain⟨o,e,d⟩:=pl.isList;show⟨o,hk _ _ e,d⟩
   have B:h1.IsList b l.toArray:=by obtain⟨o,e,d⟩:=D.isList;show⟨o,hk _ _ e,d⟩
   show call_list_zip (A.ok.hd hc) (PySem.W.ktu_apart _ _ _ am an) (by simp only[yA];lk) hz ae ⟨_,_,af⟩ ah ai la B fun h2 acc c L=>?_;have L:LE (w.heap.objs.size+4) (w.heap.objs.size+3) w.heap.objs.size (w.heap.objs.size+1) h1.objs.size (h1.objs.size+1) C.toArray l.toArray h1 (min C.toArray.size l.toArray.size) acc c h2:=L;have O:acc.size=min xs.length ys.length:=by rw[L.len,l1,l2,yA,yA]
   obtain⟨g,R⟩:∃ g,g=acc.toList.map refN:=⟨_,rfl⟩;have n:g.length=min xs.length ys.length:=by rw[R,ya,YV,O]
   have J:∀(j:Nat) t,g[j]?=some t->acc[j]?=some (.ref t)/\h1.objs.size+1<=t/\∃ x y,xs[j]?=some x/\ys[j]?=some y/\∃ u v,RelV x u/\RelV y v/\IsPair h2 t u v:=fun j t e=>by
    rw[R,yd,xL] at e;obtain⟨v,ev,et⟩:=yn.mp e;obtain⟨t',u1,u2,q1,q2,q3,q4,q5⟩:=L.its j v ev;subst q1;have ad:t'=t:=et;subst ad;have hj:j<acc.size:=(Y9.mp ev).1;obtain⟨x,S⟩:∃ x,xs[j]?=some x:=⟨_,yb (by lk)⟩;obtain⟨y,U⟩:∃ y,ys[j]?=some y:=⟨_,yb (by lk)⟩;obtain⟨a1,ab,ap⟩:=rv.get S;obtain⟨a2,ac,aq⟩:=aa.get U;have b1:a1=u1:=by rw[List.getElem?_toArray,ab] at q4;cases q4;rfl
    have b2:a2=u2:=by rw[List.getElem?_toArray,ac] at q5;cases q5;rfl
    subst b1 b2;show⟨ev,q2,x,y,S,U,a1,a2,ap,aq,q3⟩
   have nd:g.Nodup:=by
    show xm.mpr fun i j hi hj aj e=>?_;have M:=(J i g[i] (yb hi)).1;have N:=(J j g[j] (yb hj)).1;rw[e] at M;show absurd (L.nd i j _ M N) (yJ aj)
   have mem:∀ t∈g,h1.objs.size+1<=t:=fun t ht=>by
    obtain⟨j,e⟩:=Xo.mp ht;show(J j t e).2.1
   obtain⟨G,g1,g2⟩:=qfm H1 g xs ys nd (by lk) (by lk)
   have Y:∀ q,q<w.heap.objs.size->upd G h1.objs.size (.lst (g.map V.ref)) q=H1 q:=fun q hq=>by
    rw[qf (yJ (by lk))];show g2 q fun z=>by have:=mem q z;lk
   have tl:∀ t∈g,t≠h1.objs.size:=fun t ht=>by have:=mem t ht;show Yg this
   show⟨.ref _,_,A.laidM (t':=w.toks) (H':=upd G h1.objs.size (.lst (g.map V.ref))) (fun b u e=>?_) Y fun b u hb e=>?_,rfl,q _ g _ ⟨fun b o e=>?_,A.hok.fresh (by show(w.heap.objs.size:Nat)<=h1.objs.size;lk),qb,n,fun j t e=>?_⟩⟩
   .have B:∀ m:Nat,w.heap.objs.size<=m->b<m:=fun m F=>yj (yI e) F;show L.kp b u (B _ (by lk)) (yJ (B _ (by lk))) (yJ (B _ (by lk))) (yJ (B _ (by lk))) (yJ (B _ (by lk))) (yJ (B _ (by lk))) (hk b u e)
   .by_cases hl:b=h1.objs.size
    .subst hl;rw[qb] at e;cases e;show⟨by rw[ya,n,YA];lk,acc.toList,c,zY (by rw[ya,n];show O.symm) fun j y u M N=>?_,by rw[Array.toArray_toList];show L.ls⟩;rw[yd] at M;obtain⟨t,et,E⟩:=yn.mp M;subst E;rw[xL,(J j t et).1] at N;cases N;rfl
    .rw [qf hl] at e;by_cases F:b∈g
     .obtain⟨j,ej⟩:=Xo.mp F;obtain⟨_,_,x,y,ex,E,u1,u2,r1,r2,ep⟩:=J j b ej;rw[g1 j b x y ej ex E] at e;cases e;show⟨by show 2<=sizeLine;decide,[u1,u2],.cons r1 (.cons r2 .nil),⟨_,ep,rfl,_,rfl⟩⟩
     .rw [g2 b F,A.hok.fresh hb] at e;cases e
   .rw [Y b (kO fun z=>by rw[A.hok.fresh z] at e;cases e)];show e
   .obtain⟨_,N,x,y,ex,E,_⟩:=J j t e;show⟨A.hok.fresh (by lk),x,y,ex,E,?_⟩;rw[qf (tl t (ye e))];show g1 j t x y e ex E
section
variable{X:Cx}
def qf2(K:yg):List V->Hp->VK->Prop:=fun xs H Q=>∃(p:Addr) (bs:List Bool),xs=[.ref p]/\SqL K H p (bs.map V.bl)/\Q (.bl (bs.any id)) H
theorem call_any(hc:X.calm=true):zL X (.builtin "any") (qf2 X.K):=by
 intro f s B H xs us Q I r h;obtain⟨p,bs,rfl,t,q⟩:=h;obtain⟨u,rfl,y⟩:=qbl r;cases y;obtain⟨x,z,pl,hz⟩:=I.list t;have e:=qbH z;subst e;have l:X.A.in1.handled=none:=I.ok.hd hc;show call_any_walk (Xs pl.isList ?_)
 have g:p≠s.heap.objs.size:=by
  obtain⟨o,n,_⟩:=pl.isList;show yJ (yI n)
 show⟨s.heap.objs.size,_,_,_,_,_,fun i=>(bs[i]?).getD false,rfl,Walks.list l s.heap.objs.size p g (bs.map Value.bool).toArray,⟨⟨_,yU _ rfl,rfl,rfl⟩,pl.isList.at fun o e=>yu _ e⟩,fun i v s Q E hv w=>?_,fun h' tk m=>?_⟩
 .have a:(bs.map Value.bool)[i]?=some v:=by simpa using hv
  rw[yd] at a
  cases e:bs[i]? with
  | none=>rw[e] at a;cases a
  | some b =>
   rw[e] at a;cases a;have c:Q ((bs[i]?).getD false) s:=w;rw[e] at c;show yw c
 .have e:((List.range (bs.map Value.bool).toArray.size).any fun i=>(bs[i]?).getD false)=bs.any id:=by
   rw[yA,ya]
   have key:∀ bs:List Bool,((List.range bs.length).any fun i=>(bs[i]?).getD false)=bs.any id:=by
    intro bs
    induction bs with
    | nil=>rfl
    | cons b r ih =>
     rw[yy,List.range_succ_eq_map,Xm,Kg,Xm,<- ih];rfl
   show key bs
  rw[e];show⟨.bl _,H,?_,rfl,q⟩;have j:Inv X f B H { s with heap:=s.heap.push { cls:=.type "list_iterator",data:=.fields #[.ref p,.int 0 0] } }:=I.kept (t':=s.toks) fun b o e=>yu _ e;have d:=I.fpOk (b:=s.heap.objs.size) (yh _) (I.hok.fresh (yh _));show j.turned (it:=s.heap.objs.size) (h':=h') (t':=tk) (fun b o hb e=>m b o (by simpa using hb) e) d.1 d.2.1 d.2.2.2.1 d.2.2.2.2.1 d.2.2.2.2.2
end
theorem k_any{X:Cx}{K:yg}(a:X.K=K)(hc:X.calm=true):zL X (.builtin "any") (qf2 K):=by subst a;show call_any hc
section
variable{prog:Program}{w:World}{A:Around}{E:Value->Shared->Prop}{s:Shared}{a:Addr}
def TxS(w:World)(h:Heap)(a:Addr)(ss:LS):Prop:=
 ∃(es:Array (Int×Value)) (ep:Nat) (t:SetTable),h.get? a=some { cls:=.type "set",dict:=none,data:=.set es ep t } /\
  (∀ e∈es.toList,∃ k u,e=(hashStr w k,Value.str k u))/\(es.toList.map fun e=>strOf e.2).Perm ss/\t.fits es.size=true/\(es.size=0\/t.plain=false)/\es.size<scanBound
theorem TxS.keep{h h':Heap}{ss:LS}(x:TxS w h a ss)(e:∀ o,h.get? a=some o->h'.get? a=some o):TxS w h' a ss:=by
 obtain⟨es,ep,t,b,r⟩:=x;show⟨es,ep,t,e _ b,r⟩
theorem TxS.len{h:Heap}{ss:LS}{es:Array (Int×Value)}(p:(es.toList.map fun e=>strOf e.2).Perm ss):es.size=ss.length:=by
 rw[<- p.length_eq,ya,YV]
theorem or_plain{t:SetTable}{n:Nat}(a:t.plain=false):(t.orStandIn n).plain=false:=by
 unfold SetTable.orStandIn;split
 .show a
 .rfl
theorem lay_plain{t:SetTable}{es:Array (Int×Value)}{h:Int}{x:Value}(a:t.plain=false):(layNew t es h x).2.1.plain=false:=by
 unfold layNew;split
 .show or_plain a
 .rfl
theorem laid_plain{m f v:Nat}{l p:Bool}{a:Array Int}{r:SetTable×Array Nat}(h:SetTable.laid m f v l p a=some r):r.1.plain=p:=by
 unfold SetTable.laid at h
 cases hc:SetTable.layClean m a with
 | none=>rw[hc] at h;cases h
 | some o=>rw[hc] at h;cases h;rfl
theorem relay_plain{t:SetTable}{es:Array (Int×Value)}{n:Nat}(a:t.plain=false):(relayAll t es n).2.1.plain=false:=by
 unfold relayAll;split
 .rename_i t' order h
  dsimp only;split
  .rw [laid_plain (r:=(t',order)) h];show a
  .rfl
 .rfl
theorem elems_of{es:List (Int×Value)}(h:∀ e∈es,∃ k u,e=(hashStr w k,Value.str k u)):ElemsOf (PySem.strKind prog w) es:=by
 intro e a;obtain⟨k,u,rfl⟩:=h e a;show⟨⟨k,strKind_is _ _ _ _,rfl⟩,rfl⟩
theorem qet{h:Heap}{es es':Array (Int×Value)}{ep:Nat}{t t':SetTable}(b:h.get? a=some { cls:=.type "set",dict:=none,data:=.set es ep t }):(h.update a (Obj.putSet es' t')).get? a=some { cls:=.type "set",dict:=none,data:=.set es' (ep+1) t' }:=by
 have:=Yy (Obj.putSet es' t') b rfl;show this
theorem add_txt{ss:LS}{k:Str}{u:Tok}{Q:Bool->Shared->Prop}(hS:TxS w s.heap a ss)(hk:k∉ss)(hb:ss.length+1<scanBound)
  (h:∀ h',Heap.SameBut a s.heap h'->TxS w h' a (ss++[k])->Q true { s with heap:=h' }) :
  wpAny (model prog w) A (setAddHashed a (.str k u) (hashStr w k)) Q E s:=by
 obtain⟨es,ep,t,P,v,hp,hf,aa,hsz⟩:=hS;have l:=elems_of (prog:=prog) v;unfold setAddHashed setAddHashedIn;show Yn (yr (wpAny_setState_of P rfl hf ?_));dsimp only;rw[byScan_of (knd:=PySem.strKind prog w) rfl hsz l];simp only[↓reduceIte];unfold setAddByScan;show yr ?_;show yr (kU ?_);show yr (wpAny_setScan_of (knd:=PySem.strKind prog w) (k:=k) (strKind_is _ _ _ _) P rfl hf l ?_)
 have Y:es.toList.findIdx? (fun e=>(PySem.strKind prog w).is k e.2)=none:=by
  rw[List.findIdx?_eq_none_iff];intro e F;obtain⟨k',u',rfl⟩:=v e F;have X:k≠k':=fun T=>hk (hp.mem_iff.mp (YH.mpr ⟨_,F,T.symm⟩))
  cases hc:(PySem.strKind prog w).is k (Value.str k' u') with
  | false=>rfl
  | true=>show absurd ((PySem.strKind prog w).inj _ _ _ hc (strKind_is _ _ _ _)) X
 rw[Y];dsimp only;have d:=layNew_perm t es (hashStr w k) (.str k u);have f:=layNew_fits t es (hashStr w k) (.str k u);have J:=@lay_plain t es (hashStr w k) (.str k u);generalize layNew t es (hashStr w k) (.str k u)=L at d f J ⊢;obtain⟨c,t1,O,Z⟩:=L;dsimp only at d f J ⊢;rw[Array.toList_push] at d
 have I:∀(b:Bool) {j:Shared} {S:Unit->Shared->Prop},S () j->wpAny (model prog w) A (match b with | true=>rule "set.scan.the-table-gave-way" | false=>pure ()) S E j:=
  fun b j S hq=>by cases b<;>first | show yw hq | show kU hq
 have m:∀ e∈c.toList,∃ k u,e=(hashStr w k,Value.str k u):=fun e F=>by
  rcases yx.mp (d.mem_iff.mp F) with h1 | h1
  .show v e h1
  .show⟨k,u,yv.mp h1⟩
 have B:(c.toList.map fun e=>strOf e.2).Perm (ss++[k]):=by
  show(d.map _).trans ?_;rw[yC];show hp.append_right _
 have D:c.size<scanBound:=by rw[TxS.len (h:=s.heap) B,yt];show hb
 have N:=fits_of_scanBound D;show yr (I _ ?_)
 have p:∀ g:SetTable,g.fits c.size=true->g.plain=false->wpAny (model prog w) A (do
    storeSet a c g
    if (!O&&g.tooFull)=true then do
      (match (relayAll g c (SetTable.grown c.size)).2.2 with | true=>rule "set.scan.the-table-gave-way" | false=>pure ())
      storeSet a (relayAll g c (SetTable.grown c.size)).1 (relayAll g c (SetTable.grown c.size)).2.1
      pure (some true)
     else pure (some true)) (fun r s'=>∃ h',r=some true/\s'={ s with heap:=h' }/\Heap.SameBut a s.heap h'/\TxS w h' a (ss++[k])) E s:=by
  intro g W K;show yr (wpAny_storeSet_of P rfl ?_ N);have z:=qet (es':=c) (t':=g) P;have o:=xA s.heap a (Obj.putSet c g);split
  .have i:=relayAll_perm g c (SetTable.grown c.size);have y:=relayAll_fits g c (SetTable.grown c.size);have C:=relay_plain (es:=c) (n:=SetTable.grown c.size) K;generalize relayAll g c (SetTable.grown c.size)=R at i y C ⊢;obtain⟨G,t3,g2⟩:=R;dsimp only at i y C ⊢;have M:G.size=c.size:=by rw[<- YV,i.length_eq,YV]
   show yr (I _ ?_);show yr (wpAny_storeSet_of z rfl ?_ (by rw[M];show N));show yw ⟨_,rfl,rfl,o.trans (xA _ a _),G,_,t3,qet z,fun e F=>m e (i.mem_iff.mp F),(i.map _).trans B,y,.inr C,by rw[M];show D⟩
  .show yw ⟨_,rfl,rfl,o,c,_,g,z,m,B,W,.inr K,D⟩
 have H:∀{r:Option Bool} {s':Shared},(∃ h',r=some true/\s'={ s with heap:=h' }/\Heap.SameBut a s.heap h'/\TxS w h' a (ss++[k]))->Q true s'/\r=some true:=fun⟨h',e,T,U,hT⟩=>by
  subst T;show⟨h h' U hT,e⟩
 split
 .show yr ?_;rw[hashByValue_scannable 8 rfl];show yw ?_;show YE (p _ ?_ ?_) (fun r s' x=>?_) fun _ _ e=>e
  .show SetTable.fits_plain_off f
  .rfl
  .obtain⟨q,rfl⟩:=H x;show yw q
 .rename_i hpf
  show yr (yw ?_);simp only[↓reduceIte];show YE (p _ f (by simpa using hpf)) (fun r s' x=>?_) fun _ _ e=>e;obtain⟨q,rfl⟩:=H x;show yw q
theorem loop_txt{I:Addr}{fp z:LQ}{G:Array GenState->Array GenState->Prop}{P:Nat->Value->Prop}{St:Nat->Shared->Prop}{R:Result->Shared->Prop}{ks:LS}(W:WalksS prog w A.in1 I fp z G ks.length P St)(l:a∉fp)
  (y:∀ i v,P i v->∃(k:Str) (t:Tok),ks[i]?=some k/\v=.str k t) (Y:ks.Nodup) (hb:ks.length+1<scanBound) :
  ∀(n i:Nat) (s:Shared),ks.length-i=n->i<=ks.length->St i s->TxS w s.heap a (ks.take i) ->
   (∀ s',Moved (a::z) G s s'->TxS w s'.heap a ks->R (.ok (.ret .none)) s') ->
   codeAny (model prog w) A (.builtin "set.update.loop" ⟨[.ref a,.ref I],[]⟩) R s:=by
 have m:a∉z:=fun h=>l (W.sub _ h);have f:∀ b∈z,b∈a::z:=fun b hb=>yN _ hb;intro n
 induction n with
 | zero =>
  intro i s X T d B C;have e:ks.take i=ks:=YD (by lk);rw[e] at B;have J:i=ks.length:=by lk
  rw[J] at d;show XF PyProof.Rows.F.entry_set_update_loop ?_;rw[Xv xB _];show wpAny _ A.in1 (pyNext (.ref I)>>=_) _ _ s;show yr (W.done s _ _ d fun s' q=>?_);show wpAny _ A.in1 (ret Value.none) _ _ s';show yw (C s' (q.mono f) (B.keep fun o e=>q.heap a _ m e))
 | succ n ih =>
  intro i s X T d B C;have c:i<ks.length:=by lk
  show XF PyProof.Rows.F.entry_set_update_loop ?_;rw[Xv xB _];show wpAny _ A.in1 (pyNext (.ref I)>>=_) _ _ s;show yr (W.item i s _ _ c d fun v s' S x q=>?_);obtain⟨k,t,N,rfl⟩:=y i v S;have p:ks[i]=k:=by rw[yb c] at N;show ym N
  have D:TxS w s'.heap a (ks.take i):=B.keep fun o e=>q.heap a _ m e;show wpAny _ A.in1 (holding [Value.str k t] (setAdd a (.str k t))>>=_) _ _ s';show yr (Yn ?_);unfold setAdd;show Yn ?_;show yr ((PySem.strKind prog w).pyHash (k:=k) (strKind_is _ _ _ _) ?_);show add_txt (s:={ s' with toks:=s'.toks+1 }) D (fun L=>?_) (by rw[yK];lk) fun h' u E=>?_
  .obtain⟨j,U,O⟩:=List.mem_take_iff_getElem.mp L;have K:j<i:=yj U (Nat.min_le_left _ _);show(xm.mp Y) j i (by lk) c K (O.trans p.symm)
  .have H:TxS w h' a (ks.take (i+1)):=by rw[List.take_succ_eq_append_getElem c,p];show E
   show yw ⟨plainId_quiet xB _,ih (i+1) _ (by lk) c (W.frame _ s' _ _ x (xC _) fun b hb o e=>?_) H fun M r g=>?_⟩
   .rw [u.2 b (fun h:b=a=>l (by rw[<- h];show hb))];show e
   .show C M (Moved.trans W.gtrans ((q.mono f).then_heap (xC _) fun b o hb e=>?_) r) g;rw[u.2 b (fun h:b=a=>hb (by rw[h];show yY))];show e
theorem fresh_txt{h:Heap}{b:Bool}(e:h.get? a=some { cls:=.type "set",dict:=none,data:=.set #[] 0 (.fresh 0 0 b) }):TxS w h a []:=
 ⟨#[],0,_,e,fun e c=>by simp at c,.refl _,rfl,.inl rfl,by decide⟩
theorem set_txt{l:Addr}{f:Array Value}{ks:LS}{Q:Value->Shared->Prop}(hh:A.handled=none)(hl:s.heap.IsList l f)(z:f.size=ks.length)
  (G:∀(i:Nat) (v:Value),f[i]?=some v->∃(k:Str) (t:Tok),ks[i]?=some k/\v=.str k t) (hn:ks.Nodup) (hb:ks.length+1<scanBound)
  (h:∀(h':Heap) (tk:Nat),TxS w h' s.heap.objs.size ks->(∀ b o,s.heap.get? b=some o->h'.get? b=some o)->Q (.ref s.heap.objs.size) { s with heap:=h',toks:=tk }) :
  wpAny (model prog w) A (call (.type "set") [.ref l]) Q E s:=by
 obtain⟨c,tl,Y⟩:=F.called_set.mro;have O:=F.called_set.made;have ac:=F.called_set.sub;show xQ (kZ ?_);show wpAny _ _ (callAny (.type "set") _) _ _ _;show yw ⟨ku _ (by room),XF F.entry_type_call ?_⟩;rw[Around.under_plain (weight_type_call_type "set" [.ref l] []) rfl];have h1:=F.called_set.notType;have h2:=F.called_set.canCreate;have af:=F.typeCall_set_1 (.ref l)
 repeat (any_goals (first | assumption | wp_step))
 show Xf (code_set_new_1 (.ref l) (E:=E) (Q₁:=fun H g=>∃ d:Bool,H=.ref s.heap.objs.size/\g={ s with heap:=s.heap.push { cls:=.type "set",dict:=none,data:=.set #[] 0 (.fresh 0 0 d) } }) fun d=>⟨d,rfl,rfl⟩) fun r g D=>?_
 cases r with
 | error e=>show D
 | ok fl =>
  cases fl with
  | next=>show D.elim
  | brk=>show D.elim
  | cont=>show D.elim
  | ret H =>
   obtain⟨d,rfl,rfl⟩:=D;generalize p:({ cls:=.type "set",dict:=none,data:=.set #[] 0 (.fresh 0 0 d) }:Obj)=o0;have X:(s.heap.push o0).get? s.heap.objs.size=some o0:=yU _ (by rw[<- p];rfl);have hT:Shared.TypeIs { s with heap:=s.heap.push o0 } (.ref s.heap.objs.size) "set":=⟨_,X,by rw[<- p]⟩;have ag:=F.called_set.init.lookup;have ae:=F.called_set.init.bind (.ref s.heap.objs.size)
   repeat (any_goals (first | assumption | wp_step))
   show Xf (xt (R:=wants (fun r j=>r=.none/\∃ h' tk,j={ s with heap:=h',toks:=tk }/\TxS w h' s.heap.objs.size ks/\(∀ b o,s.heap.get? b=some o->h'.get? b=some o)) E) F.called_set.init.plain F.entry_set_init (check_set_init_1 hT ?_)) fun I j a=>?_
   .obtain⟨ol,C,q,nl,u⟩:=id hl;obtain⟨ad,S,P,K⟩:=ol;simp only at q u;subst q;subst u;have Z:=yu o0 C;have ab:=F.sub_list_set;have aa:=F.sub_list_frozenset;have ah:(Value.type "list"==Value.type "dict")=false:=by decide
    have x:(s.heap.push o0).IsList l f:=hl.push _;subst p;unfold Builtin.«set.__init__» noKeywords Builtin.Frozenset.updateFrom;generalize L:pyIter=PI
    wp_walk
    subst L;show Xs x ?_;show yr (wpAny_runValue ?_);have y:l<s.heap.objs.size:=yI C;have M:A.in1.in1.in1.handled=none:=by simp[hh]
    have W:=(Walks.list (prog:=prog) (w:=w) M (s.heap.push { cls:=.type "set",dict:=none,data:=.set #[] 0 (.fresh 0 0 d) }).objs.size l (by rw[YI];show yJ (Nat.lt_succ_of_lt y)) f).toS;rw[z] at W;show loop_txt W (by rw[YI];simp only[yz,yM,Yt,Ka];show⟨yJ (Xx _),Yg y⟩) G hn hb (ks.length-0) 0 _ rfl (YW _) ⟨⟨_,yU _ rfl,rfl,rfl⟩,(x.push _)⟩ (fresh_txt (yu _ X)) ?_;intro s' J m;obtain⟨h',g',d',U,T⟩:=s';have eg:g'=s.gens:=J.gens;have ed:d'=s.drawn:=J.drawn;have eo:T=s.os:=J.os;subst eg;subst ed;subst eo;show wpAny _ _ _ _ _ _;show yw ?_;show wpAny _ _ (ret Value.none) _ _ _;show yw ⟨rfl,h',U,rfl,m,fun b o e=>J.heap b o (fun n=>?_) (yu _ (yu _ e))⟩;have B:=yI e;rw[YI] at n;simp only[yz,yM,Yt] at n;rcases n with rfl | rfl
    .show absurd B (Yu _)
    .show absurd (Nat.lt_of_succ_lt B) (Yu _)
   .cases I with
    | error e=>show a
    | ok fl₂ =>
     cases fl₂ with
     | next=>show a.elim
     | brk=>show a.elim
     | cont=>show a.elim
     | ret r =>
      obtain⟨rfl,h',tk,rfl,m,N⟩:=a
      repeat (any_goals (first | assumption | wp_step))
      show h _ _ m N
end
section
variable{prog:Program}{w:World}{A:Around}{E:Value->Shared->Prop}{s:Shared}{a:Addr}
end
section
variable{prog:Program}{w:World}{A:Around}{E:Value->Shared->Prop}{s:Shared}{a I T:Addr}{es:Array (Int×Value)}{ep i:Nat}{t:SetTable}{f:Value}{Q:Option Value->Shared->Prop}
end
section
variable{prog:Program}{w:World}{A:Around}{E:Value->Shared->Prop}{s:Shared}{a I T:Addr}{es:Array (Int×Value)}{ep i:Nat}{t:SetTable}{f:Value}{Q:Option Value->Shared->Prop}{js:LN}
end
section
variable{prog:Program}{w:World}{A:Around}{E:Value->Shared->Prop}{s:Shared}{a I T:Addr}{es:Array (Int×Value)}{ep i:Nat}{t:SetTable}
end
section
variable{prog:Program}{w:World}{A:Around}{E:Value->Shared->Prop}{s:Shared}{a:Addr}{ss:LS}{w₁:World}
end
section
variable{prog:Program}{w:World}{A:Around}{E:Value->Shared->Prop}{s:Shared}{a:Addr}{ss:LS}{w₁:World}
end
section
variable{X:Cx}{K:yg}
theorem qdH:∀{ys:LS} {us:List Value},StrsAre us ys->∀(i:Nat) (v:Value),us[i]?=some v->∃(k:Str) (t:Tok),ys[i]?=some k/\v=.str k t
 | _,_,.cons y tk r,0,v,h=>⟨y,tk,rfl,(ym h).symm⟩
 | _,_,.cons y tk r,i+1,v,h=>qdH r i v h
noncomputable def qeN(a:Addr)(ss:LS):HO:=.ext fun h=>∃ w,TxS w h a ss
def rSetS(K:yg):List V->Hp->VK->Prop:=fun xs H Q=>∃(p:Addr) (ss:LS),xs=[.ref p]/\SqL K H p (ss.map V.str)/\ss.Nodup/\ss.length<=100/\∀ l:Addr,H l=none->Q (.ref l) (upd H l (qeN l ss))
theorem k_setS(f:X.K=K)(hc:X.calm=true):zL X (.type "set") (rSetS K):=by
 subst f;intro c s z H xs us Q I r h;obtain⟨p,ss,rfl,m,l,h1,q⟩:=h;obtain⟨u,rfl,t⟩:=qbl r;cases t;obtain⟨a,d,pl,hz⟩:=I.list m;have n:=qcA d;have hl:a.length=ss.length:=by rw[<- d.length,ya]
 show set_txt (ks:=ss) (I.ok.hd hc) pl.isList (by simpa using hl) (fun i v e=>qdH n i v (by simpa using e)) l (by unfold scanBound;lk) fun h' tk b j=>?_;have g:=I.hok.fresh (yh s.heap.objs.size);show⟨.ref _,_,I.laid (o:=qeN s.heap.objs.size ss) (t':=tk) j (yh _) ⟨⟨_,b⟩,?_,fun h1 y x e=>?_⟩,rfl,q _ g⟩
 .obtain⟨_,_,_,e,_⟩:=b;show⟨_,e⟩
 .obtain⟨w,x⟩:=x;show⟨w,x.keep e⟩
def rLenT:List V->Hp->VK->Prop:=fun xs H Q=>∃(p:Addr) (ss:LS),xs=[.ref p]/\H p=some (qeN p ss)/\Q (.int (ss.length:Int)) H
theorem k_lenT:zL X (.builtin "len") rLenT:=by
 intro b s g H xs us Q I r h;obtain⟨p,ss,rfl,e,q⟩:=h;obtain⟨u,rfl,f⟩:=qbl r;cases f;obtain⟨⟨w,es,ep,t,d,_,a,c,_,hb⟩,_,_⟩:=I.hok p _ e;show call_len_set d ⟨rfl,rfl,rfl⟩ rfl c (by unfold scanBound at hb;lk) ?_;rw[TxS.len (h:=s.heap) a];show⟨.int _,H,I.tok _,⟨_,rfl⟩,q⟩
end
end L2
namespace HT
open PySem PySem.Spec PyProof.Rows
section
variable{prog:Program}{w:World}{A:Around}{E:Value->Shared->Prop}{s:Shared}
end
end HT
namespace L2
open PySem PySem.Spec PyProof.Rows
section
variable{X:Cx}{K:yg}{e st:Expr}{te:TE}{ts:TO}{p2 pos:Pos}
end
end L2
namespace K26
open PySem L2 PyProof.Rows
variable{A:Str->Str->Prop}{C cw d dx p x:Addr}{E:XK}{G H H' H0 H1 H2 J J':Hp}{K:W.Frag}{M i j n:Nat}{N:Addr->Prop}{Pd:Str->Prop}{S S':FS}{a b q s t u v y z:Str}{ab:Str×Str}{c c' c0:Str->Option Nat}{dn l l' l1 l2 r rs rv rw rz ss wt:LS}{g:Str->Option Str}{kps qs tps:LP}{kvs:List (Key×V)}{lo ol:V}{m m1:Str->Option (LS)}{ns:LN}{o:HO}{ts us:LQ}{xs ys:List V}{α β:Type}
theorem Sr(H:Hp):L2.Same H H:=L2.Same.refl H
theorem ze{k:Nat}{A:Around}(a:Room k A):A.units+100<cLine:=by have:=a.un;lk
theorem hmR{k:Nat}{A:Around}(a:Room k A)(h:j<=k:=by decide):Room j A:=a.mono h
theorem uh:FnScope ["self","text"] ["self","text"] (qh jD):=fS
theorem uQ:FnScope ["self","ring"] ["self","ring"] (qh zZ):=fS
local macro_rules | `(tactic| walk_at "w")=>`(tactic| first
 | with_reducible refine vSeq ?_ | with_reducible refine vAsg ?_ | with_reducible refine vAsgS ?_ | with_reducible refine vIfS ?_ | with_reducible refine vRet ?_ | with_reducible refine vNext ?_ | with_reducible refine vC ?_
 | ((with_reducible refine' vVar ?hv ?_);(case hv=>rfl)) | with_reducible refine vOp ?_ | with_reducible refine vChain ?_ | with_reducible refine vNil ?_ | with_reducible refine vCons ?_ | with_reducible refine vCB ?_ | with_reducible refine vCall ?_
 | with_reducible refine vLst ?_ | with_reducible refine vTup ?_ | with_reducible refine vTest ?_ | with_reducible refine vB ?_ | with_reducible refine vNot ?_ | with_reducible refine vAnd ?_ | with_reducible refine vOr ?_
 | with_reducible refine vAndV ?_ | with_reducible refine vOrV ?_ | with_reducible refine vNotV ?_ | with_reducible refine vYes ?_ | with_reducible refine vLeI ?_ | with_reducible refine vLeS ?_ | with_reducible refine vIsB ?_ | with_reducible refine vAddI ?_ | with_reducible refine vSl ?_ | with_reducible refine vNoPart ?_ | with_reducible refine vPart ?_ | with_reducible refine vExI ?_ | with_reducible refine vBM ?_ | with_reducible refine vBM0 ?_ | with_reducible refine vComp ?_ | with_reducible refine vFor ?_ | with_reducible refine vRng1 ?_ | with_reducible refine vAny ?_ | with_reducible refine vGN ?_ | with_reducible refine vI0 ?_ | with_reducible refine vEqI ?_ | with_reducible refine vEqB ?_ | with_reducible refine vEx ?_ | with_reducible refine vDrop ?_ | with_reducible refine vRetN ?_ | with_reducible refine vFldU ?_ | with_reducible refine vSFldU ?_ | with_reducible refine vXMake ?_ | with_reducible refine vMake ?_ | with_reducible refine vMeth ?_ | with_reducible refine vVinit ?_ | with_reducible refine vCallS ?_ | with_reducible refine vRaise ?_ | with_reducible refine vMethS ?_ | with_reducible refine vMakeS ?_ | with_reducible refine vUn ?_ | with_reducible refine vIf ?_ | with_reducible refine vRev ?_ | with_reducible refine vEnum ?_ | with_reducible refine vDGet2 ?_ | with_reducible refine vStep ?_)
local macro_rules | `(tactic| walk_at "v")=>`(tactic| repeat walk_at "w")
local macro_rules | `(tactic| ext)=>`(tactic| walk_at "v")
local macro_rules | `(tactic| apply $e)=>`(tactic| (ext;refine $e))
noncomputable def fAtt:LS:=["board","partners","rows","parents","bases","rings","waiting","longer"]
noncomputable def qeu(_:Nat):Str:="ring"
structure Txt(K:W.Frag)(mg:Str->Option Value)(cc:Nat->Addr)(cw:Addr):Prop where
 b_len:mg "len"=none
 b_int:mg "int"=none
 b_enumerate:mg "enumerate"=none
 b_all:mg "all"=none
 b_max:mg "max"=none
 b_min:mg "min"=none
 b_isinstance:mg "isinstance"=none
 b_bool:mg "bool"=none
 b_str:mg "str"=none
 b_range:mg "range"=none
 b_list:mg "list"=none
 b_tuple:mg "tuple"=none
 b_ValueError:mg "ValueError"=none
 g_LONGEST_NAME:∃ tk,mg "LONGEST_NAME"=some (.int 6 tk)
 g_MOST_PLACES:∃ tk,mg "MOST_PLACES"=some (.int 14 tk)
 g_MOST_TIES:∃ tk,mg "MOST_TIES"=some (.int 30 tk)
 m_Odd:mg "Odd"=some (.ref (cc 0))
 m_OnceError:mg "OnceError"=some (.ref (cc 1))
 vinit:VInit K
 xat:∀ i,i<1+1->XAt K (cc i)
 na:∀ i,i<1->NoAttr K (cc i) (qeu i)
 kit:∀ i j,i<1->j<1->W.kitOne K (.ref (cc i)) (.ref (cc j))=some (decide (i=j))
 kitV:∀ i,i<1+1->W.kitOne K (.ref (cc i)) (.type "ValueError")=some true
 mroO:∀ i,i<1->W.mroIn K (cc i) (.ref (cc 1))=some true
 wcl:Cls K cw
 wn:NoAttr K cw "numbers"
 wo:NoAttr K cw "order"
 wr:NoAttr K cw "near"
 m_Web:mg "Web"=some (.ref cw)
 m_Forest:mg "Forest"=some (.ref (cc 9))
 fcl:Cls K (cc 9)
 fa:∀ a∈fAtt,NoAttr K (cc 9) a
 b_zip:mg "zip"=none
 b_any:mg "any"=none
 b_set:mg "set"=none
inductive spOnce(K:W.Frag)(vs:List V)(H:Hp)(Q:VK)(E:XK):Prop|mk (e C:Addr) (y:V) (_:vs=[.ref e,y]) (_:H e=some (XN e C none)) (_:XAt K C) (_:Q .non H)
inductive spX(C:Addr)(fl:Str)(vs:List V)(H:Hp)(Q:VK)(E:XK):Prop|mk (e:Addr) (v:V) (_:vs=[.ref e,v]) (_:H e=some (XN e C none)) (_:∀ dx,H dx=none->Q .non (upd (upd H dx (.xd [(fl,v)])) e (XN e C (some dx))))
theorem raise_done{g:Str}{y:V}(c:XAt K C)(q:∀ dx H',L2.Same H1 H'->H' dx=some (.xd [(g,y)])->E (.ref C) (some dx) H') :
  [y].length<=1000/\∀ x,H1 x=none->spX C g (.ref x::[y]) (upd H1 x (XN x C none)) (fun v H2=>v=.non/\∃ a f dx,(V.ref x)=.ref a/\H2 a=some (XN a f dx)/\XAt K f/\E (.ref f) dx (upd H2 a (XO a f dx))) E0:=by
 show⟨by show 1<=1000;decide,fun x h=>⟨x,y,rfl,qb,fun dx d=>⟨rfl,x,C,some dx,rfl,qb,c,q dx _ (fun b o e=>?_) ?_⟩⟩⟩
 .have nx:b≠x:=fun z=>by rw[z,h] at e;cases e
  have nd:b≠dx:=fun z=>by rw[<- z,qf nx,e] at d;cases d
  rw[qf nx,qf nx,qf nd,qf nx];show e
 .have nx:dx≠x:=fun z=>by rw[z,qb] at d;cases d
  rw[qf nx,qf nx,qb]
def Rz(a:Nat->Addr)(H:Hp)(E:XK)(r:Nat×V):Prop:=∀ dx H',L2.Same H H'->H' dx=some (.xd [(qeu r.1,r.2)])->E (.ref (a r.1)) (some dx) H'
section
variable{P:Program}{w:World}{K:W.Frag}{mg:Str->Option Value}{base:Heap}{cc:Nat->Addr}{cw:Addr}{f:Addr}{fd:FuncData}
theorem ok_once(F:Fun K "__init__" "OnceError.__init__" jD f fd)(T:Txt K mg cc cw):FnOk P w K mg base CX0 1 f fd ["self","text"] (spOnce K):=by
 show F.ok uh fun _ _ _ _ H vs Q E b h=>?_
 .obtain⟨e,C,y,rfl,a,c,q⟩:=h;show⟨_,(qe (qQ (k_vinit (K:=K) rfl T.vinit rfl T.b_ValueError zO (qa (pv 0) (qa (pv 1) qd))))),?_⟩;apply⟨e,C,y,rfl,a,c,q⟩
theorem ok_Odd(F:Fun K "__init__" "Odd.__init__" zZ f fd)(T:Txt K mg cc cw)(c:CMethOk P w K mg base CX0 1 (cc 1) "OnceError" "__init__" ["self","text"] (spOnce K)) :
  FnOk P w K mg base CX0 2 f fd ["self","ring"] (spX (cc 0) (qeu 0)):=by
 show F.ok uQ fun _ _ _ _ H vs Q E b h=>?_
 .obtain⟨e,v,rfl,a,q⟩:=h;show⟨_,(qc (qQ (pe_clsmQ c (hmR b) (qa (pv 0) (qa jH qd))))
 (qe (jT (K:=K) rfl (pv 0) (pv 1) rfl))),?_⟩
  apply⟨e,_,_,rfl,a,T.xat 0 (by decide),?_⟩;apply .inr ⟨e,_,rfl,a,T.xat 0 (by decide),T.na 0 (by decide),q⟩
theorem uZ:FnScope ["thing"] ["thing"] (qh zP):=fS
theorem u4:FnScope ["bits","number"] ["bits","number"] (qh qaD):=fS
theorem uR:FnScope ["numbers","thing"] ["numbers","thing"] (qh qaa):=fS
theorem KW:FnScope ["numbers","thing","both"] ["numbers","thing"] (qh jE):=fS
theorem qC{l:Addr}(a:L2.Same H H1)(hl:H1 l=none):L2.Same H (upd H1 l o):=fun c u e=>by
 have q:=a c u e;rw[qf (qI q hl)];show q
theorem qaO{l:Addr}(a:L2.Same H H1)(hl:H l=none):L2.Same H (upd H1 l o):=fun c u e=>by
 rw[qf (qI e hl)];show a c u e
noncomputable def sg(c:Nat):Bool:=if (!decide (([c]:LN)<("a":Str).cps.toList))=true then !decide (("z":Str).cps.toList < [c]) else false
noncomputable def zx(x:Str):Bool:=if 1<=x.length/\x.length<=6 then x.cps.toList.all sg else false
theorem nameS_at{x:Str}(h:zx x=true):1<=x.length/\x.length<=6/\x.cps.toList.all sg=true:=by
 unfold zx at h;split at h
 .rename_i z;show⟨z.1,z.2,h⟩
 .cases h
structure All2{α β:Type}(R:α->β->Prop)(l:List α)(m:List β):Prop where
 len:l.length=m.length
 at_:∀(k:Nat) a b,l[k]?=some a->m[k]?=some b->R a b
theorem All2.nil{R:α->β->Prop}:All2 R [] []:=⟨rfl,fun k a b h=>by simp at h⟩
theorem All2.mono{R S:α->β->Prop}{l:List α}{m:List β}(h:All2 R l m)(f:∀ a b,R a b->S a b):All2 S l m:=⟨h.len,fun k a b x y=>f a b (h.at_ k a b x y)⟩
theorem All2.snoc{R:α->β->Prop}{l:List α}{m:List β}{x:α}{y:β}(h:All2 R l m)(r:R x y):All2 R (l++[x]) (m++[y]):=by
 show⟨by rw[yt,yt,h.len];rfl,fun k a b c hb=>?_⟩;by_cases d:k<l.length
 .rw [yF d] at c;rw[yF (by rw[<- h.len];show d)] at hb;show h.at_ k a b c hb
 .rw [yB (by lk)] at c;rw[yB (by rw[<- h.len];lk)] at hb
  have e:k-l.length=0:=by
   have:=(yc.mp c).1;simp at this;lk
  rw[<- h.len] at hb;rw[e] at c hb;cases c;cases hb;show r
theorem All2.mem{R:α->β->Prop}{l:List α}{m:List β}(h:All2 R l m){x:α}(c:x∈l):∃ y∈m,R x y:=by
 obtain⟨k,b,e⟩:=List.getElem_of_mem c;have a:k<m.length:=by rw[<- h.len];show b
 show⟨m[k],Xy a,h.at_ k x m[k] (by rw[yb b,e]) (yb a)⟩
def PL(H:Hp)(l:Addr)(ts:LQ)(tps:LP):Prop:=H l=some (.lst (ts.map V.ref))/\All2 (fun t ab=>H t=some (.tup [.str ab.1,.str ab.2])) ts tps
theorem PL.same{l:Addr}(h:PL H l ts tps)(s:L2.Same H H'):PL H' l ts tps:=⟨s _ _ h.1,h.2.mono fun _ _ z=>s _ _ z⟩
inductive spName(vs:List V)(H:Hp)(Q:VK)(E:XK):Prop|mk (x:Str) (_:vs=[.str x]) (_:zx x=true) (_:∀ H',L2.Same H H'->Q (.bl true) H')
theorem ok_name(F:Fun K "is_name" "is_name" zP f fd)(T:Txt K mg cc cw):FnOk P w K mg base CX0 1 f fd ["thing"] spName:=by
 show F.ok uZ fun _ _ _ _ H vs Q E r h=>?_
 .obtain⟨x,rfl,j,q⟩:=h;obtain⟨s,n,p⟩:=nameS_at j;show⟨_,(qc (qM (PW.pt (qar (jm (qX (qr (qaA (K:=K) rfl) rfl T.b_isinstance YR (qa (pv 0) (qa (j3 (v:=.ty "str") rfl T.b_str boot_str rfl) qd))))) (qaj (jm (pt_chain qfv qfv qg (qr (zj (K:=K) rfl) rfl T.b_len YS (qa (pv 0) qd)) (qbI rfl T.g_LONGEST_NAME)))))) (qe (qo zi)) qq)
 (qe (qo (qr (qeK (K:=K) rfl rfl) rfl T.b_all boot_all (qa (jG (sc:=qh zP) (XN:=["thing"]) ["sign"] 1 [] rfl rfl rfl (by room) rfl (by room)
  (qL (K:=K) rfl (pv 0)) (fun _ _ _ _=>(qk (i:=0) (show(["sign"]:LS).Nodup by room) rfl (yP rfl))) qW
  (fun _ _ _ _=>zm)
  (fun _ _ _ _=>(pe_chain qfv qfv jH (pv 0) jH))) qd))))),?_⟩
  apply qbL (.inl (.str x)) rfl (qao K "str" (by simp) "str" (by simp)) ?_;apply yq ?_;apply qfd (yi n (by decide)) ?_;apply qJ (fun h1=>?_) fun h1=>absurd (yD (by lk)) h1;apply qJ (fun e=>by simp only[Bool.not_eq_true',decide_eq_false_iff_not] at e;lk) fun e=>?_;apply comp_str (fun i ys H'=>H'=H/\ys=((x.cps.toList.take i).map sg).map V.bl) ⟨rfl,by simp⟩ (fun i c ys H' hc d=>?_) fun ys H' d=>?_
  .obtain⟨rfl,rfl⟩:=d;apply zA ?_;ext
   have hl:(List.map V.bl (List.map sg (List.take i x.cps.toList))).length<sizeLine:=by
    rw[ya,ya,yK];show qi (yi (kJ _ _) (by simpa [Str.length] using(show x.length<=1000 by lk)))
   have key:∀ b,b=sg c->(List.map V.bl (List.map sg (List.take i x.cps.toList)))++[V.bl b]=List.map V.bl (List.map sg (List.take (i+1) x.cps.toList)):=by
    intro b hb;have g:x.cps.toList[i]?=some c:=by simpa using hc
    rw[hb,yH,g];simp
   show qJ (fun a=>?_) fun a=>⟨hl,rfl,key _ (by unfold sg;rw[yE a])⟩;apply⟨hl,rfl,key _ (by unfold sg;rw[yG a])⟩
  .obtain⟨rfl,rfl⟩:=d;have m:x.cps.toList.take x.cps.size=x.cps.toList:=by rw[<- YV,yO]
   rw[m];show⟨?_,fun l hl=>?_⟩
   .rw [ya,ya];show yT (qi (by simpa [Str.length] using(show x.length<=1000 by lk)))
   .ext;show⟨l,x.cps.toList.map sg,rfl,SqL.of qb,?_⟩;have z:=q _ (qC (Sr H') (o:=.lst ((x.cps.toList.map sg).map V.bl)) hl);rw[kS];rw[<- p] at z;show z
inductive spBit(vs:List V)(H:Hp)(Q:VK)(E:XK):Prop|mk (b n:Int) (_:vs=[.int b,.int n]) (_:0<=n) (_:Q (.bl (decide (Builtin.bitAnd (b / 2 ^ n.toNat) 1=1))) H)
theorem ok_bit(F:Fun K "has_bit" "has_bit" qaD f fd):FnOk P w K mg base CX0 1 f fd ["bits","number"] spBit:=by
 show F.ok u4 fun _ _ _ _ H vs Q E c h=>?_
 .obtain⟨b,n,rfl,a,q⟩:=h;have d:=ze c;show⟨_,(qe (qo (jq (zG (K:=K) rfl d) (qE op_and (qE op_shr (pv 0) (pv 1)) qg) qg (qw _)))),?_⟩;apply vI a ?_;apply .inl (.inl (.inl ⟨rfl,rfl,?_⟩));show q
noncomputable def qbd:LS->Nat->List (Key×V)
 | [],_=>[]
 | s::r,i=>(.inr s,.int i)::qbd r (i+1)
theorem qcn(y:Str):∀(ss:LS) (i:Nat),qbd (ss++[y]) i=qbd ss i++[(.inr y,.int (i+ss.length:Nat))]
 | [],i=>rfl
 | s::r,i=>by
  show(_::qbd (r++[y]) (i+1))=_::(qbd r (i+1)++_);rw[qcn y r (i+1)];have:i+1+r.length=i+(s::r).length:=by simp;lk
  rw[this]
theorem zH:∀(ss:LS) (i:Nat),(qbd ss i).length=ss.length
 | [],_=>rfl
 | _::r,i=>congrArg (· + 1) (zH r (i+1))
theorem qaE:∀{ss:LS} {i:Nat},y∉ss->jR (qbd ss i) (.inr y:Key)=none
 | [],_,_=>rfl
 | s::r,i,h=>by
  have h1:¬ s=y:=fun e=>h (by rw[e];show yY);show jR ((.inr s,V.int i)::qbd r (i+1)) _=none;rw[q9 (p:=((.inr s:Key),V.int i)) (fun e=>h1 (xj e))];show qaE fun m=>h (yN _ m)
theorem jZ:∀{ss:LS} {i:Nat},y∈ss->∃ j,j<ss.length/\ss[j]?=some y/\jR (qbd ss i) (.inr y:Key)=some (.int (i+j:Nat))
 | [],_,h=>by cases h
 | s::r,i,h=>by
  by_cases e:s=y
  .subst e;show⟨0,by simp,rfl,jp (p:=((.inr s:Key),V.int i)) rfl⟩
  .rcases yz.mp h with z | z
   .show absurd z.symm e
   .obtain⟨j,h1,b,c⟩:=jZ (i:=i+1) z;show⟨j+1,by simp;lk,by simpa using b,?_⟩;show jR ((.inr s,V.int i)::qbd r (i+1)) _=_;rw[q9 (p:=((.inr s:Key),V.int i)) (fun a=>e (xj a)),c];have:i+1+j=i+(j+1):=by lk
    rw[this]
theorem qbe(y:Str)(ss:LS)(i:Nat):(jR (qbd ss i) (.inr y:Key)).isSome=decide (y∈ss):=by
 by_cases h:y∈ss
 .obtain⟨j,_,_,e⟩:=jZ (i:=i) h;rw[e,yD h];rfl
 .rw [qaE h,yl h];rfl
inductive spPlace(vs:List V)(H:Hp)(Q:VK)(E:XK):Prop|mk (d:Addr) (ss:LS) (x:Str) (_:vs=[.ref d,.str x]) (_:H d=some (.dK (qbd ss 0))) (_:zx x=true) (_:x∈ss) (_:∀ H',L2.Same H H'->Q (.bl true) H')
theorem ok_place(F:Fun K "is_place" "is_place" qaa f fd)(j:DefOk P w K mg base CX0 1 "is_name" ["thing"] spName):FnOk P w K mg base CX0 2 f fd ["numbers","thing"] spPlace:=by
 show F.ok uR fun _ _ _ _ H vs Q E a h=>?_
 .obtain⟨d,ss,x,rfl,c,e,i,q⟩:=h;have g:=ze a;show⟨_,(qe (qo (qbo (qp j (hmR a) qz (qa (pv 1) qd)) (qa4 (jq (zt (K:=K) rfl g) (pv 1) (pv 0) (by with_unfolding_all rfl)))))),?_⟩;apply⟨x,rfl,e,fun H1 b=>?_⟩;apply zA ?_;apply .inr (.inl ⟨d,_,rfl,DGet.k (k:=Sum.inr x) (b d _ c),?_⟩);rw[qbe,yD i];show q H1 b
inductive spTwo(vs:List V)(H:Hp)(Q:VK)(E:XK):Prop|mk (d t:Addr) (ss:LS) (a b:Str) (_:vs=[.ref d,.ref t]) (_:H d=some (.dK (qbd ss 0))) (_:H t=some (.tup [.str a,.str b])) (_:zx a=true) (_:zx b=true) (_:a∈ss) (_:b∈ss) (_:a≠b) (_:∀ H',L2.Same H H'->Q (.bl true) H')
theorem ok_two(F:Fun K "are_two_places" "are_two_places" jE f fd)(T:Txt K mg cc cw)(o:DefOk P w K mg base CX0 2 "is_place" ["numbers","thing"] spPlace):FnOk P w K mg base CX0 3 f fd ["numbers","thing"] spTwo:=by
 show F.ok KW fun _ _ _ _ H vs Q E m h=>?_
 .obtain⟨d,t,ss,a,b,rfl,p,c,s,u,r,hb,l,q⟩:=h;have g:=ze m;show⟨_,(qc (qM (PW.pt (qar (jm (qX (qr (qaA (K:=K) rfl) rfl T.b_isinstance YR (qa (pv 1) (qa (j3 (v:=.ty "tuple") rfl T.b_tuple boot_tuple rfl) qd))))) (qaj (qj (qaB (K:=K) rfl g) (qr (zj (K:=K) rfl) rfl T.b_len YS (qa (pv 1) qd)) qg (qw _))))) (qe (qo zi)) qq)
 (qc (qm (i:=2) KW.nd rfl (yP rfl) (qbo (qp o (hmR m) qz (qa (pv 0) (qa (qt (qu (K:=K) rfl g) (pv 1) qg (fun _ _=>rfl)) qd))) (qa4 (qp o (hmR m) qz (qa (pv 0) (qa (qt (qu (K:=K) rfl g) (pv 1) qg (fun _ _=>rfl)) qd))))))
 (qe (qo (qbo (pv 2) (qa4 (jq (qaB (K:=K) rfl g) (qt (qu (K:=K) rfl g) (pv 1) qg (fun _ _=>rfl)) (qt (qu (K:=K) rfl g) (pv 1) qg (fun _ _=>rfl)) (qw _)))))))),?_⟩
  apply qbL (.inl (.tup c)) rfl (qao K "tuple" (by simp) "tuple" (by simp)) ?_;apply yq ?_;apply qfe c ?_;apply .inl ⟨rfl,rfl,?_⟩;apply yq ?_;apply .inl (qaX c rfl ?_);apply⟨d,ss,a,rfl,p,s,r,fun H1 j=>?_⟩;apply zA ?_;apply .inl (qaX (j _ _ c) rfl ?_);apply⟨d,ss,b,rfl,j _ _ p,u,hb,fun H2 n=>?_⟩;apply zA ?_;apply .inl (qaX (n _ _ (j _ _ c)) rfl ?_);apply .inl (qaX (n _ _ (j _ _ c)) rfl ?_);show .inl ⟨rfl,rfl,?_⟩;have z:=q H2 (j.trans n);have e:(if true=true then !eqV (V.str a) (V.str b) else eqV (V.str a) (V.str b))=true:=by simp[eqV,l]
  rw[e];show z
theorem KS:FnScope ["names","numbers","name"] ["names"] (qh zn):=fS
theorem qcJ(m j:Nat):decide (Builtin.bitAnd ((m:Int) / 2 ^ (j:Int).toNat) 1=1)=m.testBit j:=by
 rw[PyProof.Rows.bitAnd_m1,Nat.testBit_eq_decide_div_mod_eq];rw[YB];have e:(m:Int) / 2 ^ j=((m / 2 ^ j:Nat):Int):=by rw[Int.natCast_ediv,Int.natCast_pow];rfl
 rw[e]
 congr 1
 apply propext;lk
theorem qev(m j:Nat):Builtin.bitOr (m:Int) (1*2 ^ (j:Int).toNat)=((m ||| 2 ^ j:Nat):Int):=by
 have e:(1*2 ^ (j:Int).toNat:Int)=((2 ^ j:Nat):Int):=by rw[YB,Int.one_mul,Int.natCast_pow];rfl
 rw[e];generalize 2 ^ j=k;have c:Builtin.bitNot (m:Int)=-(m:Int)-1:=rfl;have d:Builtin.bitNot (k:Int)=-(k:Int)-1:=rfl;unfold Builtin.bitOr Builtin.bitAnd;rw[c,d,yl (by lk),yl (by lk)];dsimp only;unfold Builtin.bitNot;have a:(-(-(m:Int)-1)-1).toNat=m:=by lk
 have b:(-(-(k:Int)-1)-1).toNat=k:=by lk
 rw[a,b];lk
def But(x:Addr)(H H':Hp):Prop:=∀ b o,b≠x->H b=some o->H' b=some o
theorem But.refl(x:Addr)(H:Hp):But x H H:=fun _ _ _ e=>e
theorem But.same(a:But x H H1)(b:L2.Same H1 H2):But x H H2:=fun c o n e=>b c o (a c o n e)
theorem But.put(a:But x H H1):But x H (upd H1 x o):=fun c u n e=>by rw[qf n];show a c u n e
theorem But.new{l:Addr}(a:But x H H1)(hl:H1 l=none):But x H (upd H1 l o):=a.same (qC (Sr H1) hl)
theorem qdI{a q:Addr}{Q:VK}(h:H a=some (.lst xs))(b:H q=some (.tup [.ty "list",.ty "tuple"]))(k:Q (.bl true) H):qeq K [.ref a,.ref q] H Q:=
 ⟨_,q,_,_,[.type "list",.type "tuple"],true,rfl,.inl (.lst h),b,rfl,rfl,k⟩
inductive spNums(vs:List V)(H:Hp)(Q:VK)(E:XK):Prop|mk (a:Addr) (ss:LS) (_:vs=[.ref a]) (_:H a=some (.lst (ss.map V.str))) (_:ss.length<=14) (_:ss.Nodup) (_:(∀ s∈ss,zx s=true)) (_:∀ d H',L2.Same H H'->H d=none->H' d=some (.dK (qbd ss 0))->Q (.ref d) H')
theorem ok_nums(F:Fun K "numbers_of" "numbers_of" zn f fd)(T:Txt K mg cc cw)(S:DefOk P w K mg base CX0 1 "is_name" ["thing"] spName) :
  FnOk P w K mg base CX0 4 f fd ["names"] spNums:=by
 show F.ok KS fun _ _ _ _ H vs Q E G h=>?_
 .obtain⟨a,ss,rfl,l,M,r,s,q⟩:=h;have I:=ze G;show⟨_,(qc (qM (jm (qX (qr (qdB (K:=K) rfl) rfl T.b_isinstance YR (qa (pv 0) (qa (jS (qa (j3 (v:=.ty "list") rfl T.b_list Xz rfl) (qa (j3 (v:=.ty "tuple") rfl T.b_tuple boot_tuple rfl) qd))) qd))))) (qe jK) qq)
 (qc (qM (qj qdd (qr (zj (K:=K) rfl) rfl T.b_len YS (qa (pv 0) qd)) (qbI rfl T.g_MOST_PLACES) (qw _)) (qe jK) qq)
 (qc (qm (i:=1) KS.nd rfl (yP rfl) jX)
 (qc (jo yZ rfl (qL (K:=K) rfl (pv 0)) (qk (i:=2) KS.nd rfl (yP rfl))
 (qc (qM (jm (qX (qp S (hmR G) qz (qa (pv 2) qd)))) (qe jK) qq)
 (qc (qM (qj (zt (K:=K) rfl I) (pv 2) (pv 1) (by with_unfolding_all rfl)) (qe jK) qq)
 (qe (jw (qr (zj (K:=K) rfl) rfl T.b_len YS (qa (pv 1) qd)) (jI (pv 1) (pv 2) (jJ I)))))))
 (qe (qo (pv 1))))))),?_⟩
  apply⟨by show 2<=sizeLine;decide,fun g N=>?_⟩;have m:=qC (Sr H) (o:=.tup [.ty "list",.ty "tuple"]) N;apply qdI (m _ _ l) qb ?_;apply yq ?_;apply qan (m _ _ l) ?_;rw[ya];apply qJ (fun h=>by have:=yk h;lk) fun _=>?_;ext;intro d C;have L:=qC m (o:=.dK []) C;have c:H d=none:=m.free C;apply .inl ⟨⟨_,SqL.of (L _ _ l)⟩,qN (K:=K) (fun i p H'=>∃ A,p=[some (.ref a),some (.ref d),A]/\L2.Same H H'/\H' d=some (.dK (qbd (ss.take i) 0))) ⟨none,rfl,L,qb⟩ (fun i p H' _ e=>by obtain⟨_,_,z,_⟩:=e;show SqL.of (z _ _ l)) (fun i y p H' J e=>?_) fun p H' e=>?_⟩
  .obtain⟨A,rfl,u,b⟩:=e;rw[yd] at J;obtain⟨x,t,rfl⟩:=yn.mp J;have O:i<ss.length:=(yc.mp t).1;have j:ss.take (i+1)=ss.take i++[x]:=by rw[yH,t];rfl
   have D:x∉ss.take i:=fun z=>by
    have B:(ss.take (i+1)).Nodup:=r.sublist (XR _ _);rw[j] at B;show(yX.mp B).2.2 _ z x (by simp) rfl
   apply⟨x,rfl,s x (ye t),fun H1 n=>?_⟩;have R:=u.trans n;apply yq ?_;apply .inr (.inl ⟨d,_,rfl,DGet.k (k:=Sum.inr x) (n _ _ b),?_⟩);rw[qbe,yl D];apply yq ?_;apply .inr ⟨_,n _ _ b,?_⟩;apply .inr ⟨d,_,rfl,DPut.k (k:=Sum.inr x) (n _ _ b) (qi (by rw[zH,yK];lk)),?_⟩;show⟨_,rfl,qaO R c,?_⟩;rw[qb,qaW _ (qaE D),j,qcn,zH];simp only[Xi]
  .obtain⟨A,rfl,u,b⟩:=e;ext;rw[ya,yO] at b;show q d H' u c b
theorem uS:FnScope ["self","names","ties"] ["self","names","ties"] (qh qab):=fS
theorem KF:FnScope ["numbers","ties","near","tie","one","other"] ["numbers","ties"] (qh qaF):=fS
def qbf(ss:LS)(ns:LN)(c:LP):Prop:=ns.length=ss.length/\(∀ a,ns.getD a 0<2 ^ ss.length)/\∀ a b s t,ss[a]?=some s->ss[b]?=some t->(ns.getD a 0).testBit b=decide ((s,t)∈c\/(t,s)∈c)
theorem qG(h:ss.Nodup){a b:Nat}(i:ss[a]?=some s)(hb:ss[b]?=some s):a=b:=by
 have e:=xm.mp h;obtain⟨f,c⟩:=yc.mp i;obtain⟨g,d⟩:=yc.mp hb;rcases XW a b with q | q | q
 .show absurd (c.trans d.symm) (e a b f g q)
 .show q
 .show absurd (d.trans c.symm) (e b a g f q)
theorem bits_zero:qbf ss (List.replicate ss.length 0) []:=by
 have z:∀ a,(List.replicate ss.length 0).getD a 0=0:=fun a=>by
  simp only[List.getD,XH];split<;>rfl
 show⟨by simp,fun a=>by rw[z a];show Nat.two_pow_pos _,fun a b s t c hb=>?_⟩;rw[z a];simp
theorem qaG{v:Nat}(h:i<ns.length):(ns.set i v).getD j 0=if i=j then v else ns.getD j 0:=by
 simp only[List.getD,List.getElem?_set];by_cases e:i=j
 .subst e;simp[h]
 .simp [e]
theorem bits_step{f:LP}(hb:qbf ss ns f)(o:ss.Nodup)(d:ss[i]?=some s)(l:ss[j]?=some t)(n:s≠t) :
  qbf ss ((ns.set i (ns.getD i 0 ||| 2 ^ j)).set j (ns.getD j 0 ||| 2 ^ i)) (f++[(s,t)]):=by
 obtain⟨hl,m,h⟩:=hb;have B:i<ns.length:=by rw[hl];show(yc.mp d).1
 have C:j<ns.length:=by rw[hl];show(yc.mp l).1
 have D:i≠j:=fun e=>by rw[e,l] at d;cases d;show n rfl
 have y:i<ss.length:=(yc.mp d).1;have A:j<ss.length:=(yc.mp l).1;show⟨by simp[hl],fun a=>?_,fun a b u v g c=>?_⟩
 .rw [qaG (by simpa using C),qaG B];split
  .show Nat.or_lt_two_pow (m _) (Nat.pow_lt_pow_right (by decide) y)
  .split
   .show Nat.or_lt_two_pow (m _) (Nat.pow_lt_pow_right (by decide) A)
   .show m _
 rw[qaG (by simpa using C),qaG B];have p:=h a b u v g c;have key:∀ P Q:Prop,(P↔Q)->∀ [Decidable P] [Decidable Q],decide P=decide Q:=fun P Q e=>by intro _ _;show YZ.mpr e
 by_cases w:j=a
 .subst w;rw[l] at g;cases g;rw[yG rfl,Nat.testBit_or,p,Nat.testBit_two_pow];by_cases r:i=b
  .subst r;rw[d] at c;cases c;simp
  .have vs:v≠s:=fun e=>by subst e;show r (qG o d c)
   simp only[r,Kd,kF];apply YZ.mpr;simp only[yx,yv,XE];constructor
   .rintro (z | z)
    .show .inl (.inl z)
    .show .inr (.inl z)
   .rintro ((z | ⟨z,_⟩) | (z | ⟨z,_⟩))
    .show .inl z
    .show absurd z.symm n
    .show .inr z
    .show absurd z vs
 .rw [yE w];by_cases q:i=a
  .subst q;rw[d] at g;cases g;rw[yG rfl,Nat.testBit_or,p,Nat.testBit_two_pow];by_cases x:j=b
   .subst x;rw[l] at c;cases c;simp
   .have F:v≠t:=fun e=>by subst e;show x (qG o l c)
    simp only[x,Kd,kF];apply YZ.mpr;simp only[yx,yv,XE];constructor
    .rintro (z | z)
     .show .inl (.inl z)
     .show .inr (.inl z)
    .rintro ((z | ⟨_,z⟩) | (z | ⟨_,z⟩))
     .show .inl z
     .show absurd z F
     .show .inr z
     .show absurd z n
  .rw [yE q,p];have us:u≠s:=fun e=>by subst e;show q (qG o d g)
   have E:u≠t:=fun e=>by subst e;show w (qG o l g)
   apply YZ.mpr;simp only[yx,yv,XE];constructor
   .rintro (z | z)
    .show .inl (.inl z)
    .show .inr (.inl z)
   .rintro ((z | ⟨z,_⟩) | (z | ⟨_,z⟩))
    .show .inl z
    .show absurd z us
    .show .inr z
    .show absurd z E
noncomputable def qcK(ns:LN):List V:=ns.map fun(n:Nat)=>.int (n:Int)
theorem qaZ(h:i<ns.length):(qcK ns)[i]?=some (.int (ns.getD i 0:Nat)):=by
 unfold qcK;rw[yd,yb h];simp[List.getD,h]
theorem qc3(ns:LN)(i m:Nat):(qcK ns).set i (.int m)=qcK (ns.set i m):=by
 unfold qcK;rw[List.map_set]
theorem natV_zero(k:Nat):(List.replicate k [V.int 0]).flatten=qcK (List.replicate k 0):=by
 induction k with
 | zero=>rfl
 | succ k ih=>rw[xx,Xq,ih];rfl
theorem qdJ(h:j<n):ixN n (j:Int)=some j:=by
 unfold ixN;rw[yG (by lk),yG (by lk)];rfl
def UN(x y:Str×Str):Prop:=x≠y/\x≠(y.2,y.1)
structure TGo(ss:LS)(tps:LP):Prop where
 few:tps.length<=30
 inn:∀ ab∈tps,ab.1∈ss/\ab.2∈ss/\ab.1≠ab.2
 un:tps.Pairwise UN
structure WOk(ss:LS)(ns:LN):Prop where
 len:ns.length=ss.length
 few:ss.length<=14
 nd:ss.Nodup
 lt:∀ a,ns.getD a 0<2 ^ ss.length
 nm:∀ s∈ss,zx s=true
inductive WebAt(cw:Addr)(H:Hp)(x:Addr)(ss:LS)(ns:LN):Prop|mk (dx d ol n:_) (_:H x=some (.ins cw dx (qD "near" (.ref n) (qD "order" (.ref ol) (qD "numbers" (.ref d) []))))) (_:H d=some (.dK (qbd ss 0))) (_:H ol=some (.lst (ss.map V.str))) (_:H n=some (.lst (qcK ns))) (_:WOk ss ns)
theorem WebAt.same(h:WebAt cw H x ss ns)(s:L2.Same H H'):WebAt cw H' x ss ns:=by
 obtain⟨dx,d,ol,n,h1,a,b,c,e⟩:=h;show⟨dx,d,ol,n,s _ _ h1,s _ _ a,s _ _ b,s _ _ c,e⟩
inductive WebN(H0:Hp)(cw:Addr)(H:Hp)(x:Addr)(ss:LS)(ns:LN):Prop|mk (dx d ol n:_) (_:H x=some (.ins cw dx (qD "near" (.ref n) (qD "order" (.ref ol) (qD "numbers" (.ref d) []))))) (_:H d=some (.dK (qbd ss 0))) (_:H ol=some (.lst (ss.map V.str))) (_:H n=some (.lst (qcK ns))) (_:WOk ss ns) (_:H0 d=none) (_:H0 ol=none) (_:H0 n=none)
theorem WebN.web(h:WebN H0 cw H x ss ns):WebAt cw H x ss ns:=by
 obtain⟨dx,d,ol,n,h1,a,b,c,e,_⟩:=h;show⟨dx,d,ol,n,h1,a,b,c,e⟩
inductive WebP(A:Addr->Prop)(cw:Addr)(H:Hp)(x:Addr)(ss:LS)(ns:LN):Prop|mk (dx d ol n:_) (_:H x=some (.ins cw dx (qD "near" (.ref n) (qD "order" (.ref ol) (qD "numbers" (.ref d) []))))) (_:H d=some (.dK (qbd ss 0))) (_:H ol=some (.lst (ss.map V.str))) (_:H n=some (.lst (qcK ns))) (_:WOk ss ns) (_:¬ A x) (_:¬ A d) (_:¬ A ol) (_:¬ A n)
theorem qco:∀(ss:LS) (i:Nat),(qbd ss i).map (fun a=>kV a.1)=ss.map V.str
 | [],_=>rfl
 | s::r,i=>congrArg (V.str s::·) (qco r (i+1))
inductive spNear(vs:List V)(H:Hp)(Q:VK)(E:XK):Prop|mk (d l:Addr) (ss:LS) (ts:LQ) (tps:LP) (_:vs=[.ref d,.ref l]) (_:H d=some (.dK (qbd ss 0))) (_:ss.length<=14) (_:ss.Nodup) (_:(∀ s∈ss,zx s=true)) (_:PL H l ts tps) (_:TGo ss tps) (_:∀ n ns H',L2.Same H H'->H n=none->H' n=some (.lst (qcK ns))->qbf ss ns tps->Q (.ref n) H')
theorem ok_near(F:Fun K "near_of" "near_of" qaF f fd)(T:Txt K mg cc cw)(KD:DefOk P w K mg base CX0 3 "are_two_places" ["numbers","thing"] spTwo)(KQ:DefOk P w K mg base CX0 1 "has_bit" ["bits","number"] spBit) :
  FnOk P w K mg base CX0 4 f fd ["numbers","ties"] spNear:=by
 show F.ok KF fun _ _ _ _ H vs Q E hr h=>?_
 .obtain⟨d,l,ss,ts,tps,rfl,W,aj,af,G,⟨hl,D⟩,Z,q⟩:=h;have j:=ze hr;have L:=D.len;have few:=Z.few;show⟨_,(qc (qM (jm (qX (qr (qdB (K:=K) rfl) rfl T.b_isinstance YR (qa (pv 1) (qa (jS (qa (j3 (v:=.ty "list") rfl T.b_list Xz rfl) (qa (j3 (v:=.ty "tuple") rfl T.b_tuple boot_tuple rfl) qd))) qd))))) (qe jK) qq)
 (qc (qM (qj qdd (qr (zj (K:=K) rfl) rfl T.b_len YS (qa (pv 1) qd)) (qbI rfl T.g_MOST_TIES) (qw _)) (qe jK) qq)
 (qc (qm (i:=2) KF.nd rfl (yP rfl) (qE qeh (jg (qa qg qd)) (qr (zj (K:=K) rfl) rfl T.b_len YS (qa (pv 0) qd))))
 (qc (jo yZ rfl (qL (K:=K) rfl (pv 1)) (qk (i:=3) KF.nd rfl (yP rfl))
 (qc (qM (jm (qX (qp KD (hmR hr) qz (qa (pv 0) (qa (pv 3) qd))))) (qe jK) qq)
 (qc (qm (i:=4) KF.nd rfl (yP rfl) (qt (qu (K:=K) rfl j) (pv 0) (qt (qu (K:=K) rfl j) (pv 3) qg (fun _ _=>rfl)) (fun _ _=>rfl)))
 (qc (qm (i:=5) KF.nd rfl (yP rfl) (qt (qu (K:=K) rfl j) (pv 0) (qt (qu (K:=K) rfl j) (pv 3) qg (fun _ _=>rfl)) (fun _ _=>rfl)))
 (qc (qM (qX (qp KQ (hmR hr) qz (qa (qt (qu (K:=K) rfl j) (pv 2) (pv 4) (fun _ _=>rfl)) (qa (pv 5) qd)))) (qe jK) qq)
 (qc (jw (qE qe5 (qt (qu (K:=K) rfl j) (pv 2) (pv 4) (fun _ _=>rfl)) (qE qef qg (pv 5))) (jI (pv 2) (pv 4) (jJ j)))
 (qe (jw (qE qe5 (qt (qu (K:=K) rfl j) (pv 2) (pv 5) (fun _ _=>rfl)) (qE qef qg (pv 4))) (jI (pv 2) (pv 5) (jJ j))))))))))
 (qe (qo (pv 2))))))),?_⟩
  apply⟨by show 2<=sizeLine;decide,fun g aa=>?_⟩;have s0:=qC (Sr H) (o:=.tup [.ty "list",.ty "tuple"]) aa;apply qdI (s0 _ _ hl) qb ?_;apply yq ?_;apply qan (s0 _ _ hl) ?_;rw[ya];apply qJ (fun h=>by have:=yk h;lk) fun _=>?_;apply⟨by show 1<=sizeLine;decide,fun z ah=>?_⟩;have s1:=qC s0 (o:=.lst [.int 0]) ah;apply .inr ⟨_,s1 _ _ W,?_⟩;ext;rw[zH];show⟨z,_,_,rfl,rfl,qb,by lk,by lk,by show 1*_<=sizeLine;rw[YB];show yT (qi (by lk)),fun n hn=>?_⟩;rw[YB,natV_zero];have s2:=qC s1 (o:=.lst (qcK (List.replicate ss.length 0))) hn;have n0:H n=none:=s1.free hn;apply .inl ⟨⟨_,SqL.of (s2 _ _ hl)⟩,qN (K:=K) (fun i Y H'=>∃ v3 v4 v5 ns,Y=[some (.ref d),some (.ref l),some (.ref n),v3,v4,v5]/\L2.Same H H'/\H' n=some (.lst (qcK ns))/\qbf ss ns (tps.take i))
   ⟨none,none,none,_,rfl,s2,qb,bits_zero⟩ (fun i Y H' _ I=>by obtain⟨_,_,_,_,_,z,_⟩:=I;show SqL.of (z _ _ hl)) (fun i y Y H' hy I=>?_) fun Y H' I=>?_⟩
  .obtain⟨v3,v4,v5,ns,rfl,N,A,a⟩:=I;rw[yd] at hy;obtain⟨t,ht,rfl⟩:=yn.mp hy;have ac:i<ts.length:=(yc.mp ht).1;obtain⟨⟨p,r⟩,u⟩:∃ ab,tps[i]?=some ab:=⟨_,yb (by rw[<- L];show ac)⟩;have U:=D.at_ i t _ ht u;obtain⟨m1,X,c⟩:=Z.inn _ (ye u);dsimp only at U m1 X c;have J:tps.take (i+1)=tps.take i++[(p,r)]:=by rw[yH,u];rfl
   have ag:¬ ((p,r)∈tps.take i\/(r,p)∈tps.take i):=fun z=>by
    have h3:(tps.take (i+1)).Pairwise UN:=Z.un.sublist (XR _ _);rw[J] at h3;have h4:=(List.pairwise_append.mp h3).2.2;rcases z with z | z
    .show(h4 _ z (p,r) (by simp)).1 rfl
    .show(h4 _ z (p,r) (by simp)).2 rfl
   obtain⟨C,ad,b,R⟩:=jZ (i:=0) m1;obtain⟨B,ae,s,S⟩:=jZ (i:=0) X;rw[Xi] at R S;have ai:C≠B:=fun e=>by rw[e,s] at b;cases b;show c rfl
   have m:C<ns.length:=by rw[a.1];show ad
   have M:B<ns.length:=by rw[a.1];show ae
   apply⟨d,t,ss,p,r,rfl,N _ _ W,N _ _ U,G _ m1,G _ X,m1,X,c,fun H1 t1=>?_⟩;have O:=N.trans t1;have x:=t1 _ _ A;apply yq ?_;apply .inl (qaX (O _ _ U) rfl ?_);show .inr ⟨d,.int C,rfl,?_,?_⟩
   .have:=DGet.k (k:=Sum.inr p) (O _ _ W);rw[R] at this;show this
   apply .inl (qaX (O _ _ U) rfl ?_);show .inr ⟨d,.int B,rfl,?_,?_⟩
   .have:=DGet.k (k:=Sum.inr r) (O _ _ W);rw[S] at this;show this
   apply .inl (zX x (qx (qaZ m)) ?_);apply⟨_,_,rfl,by lk,?_⟩;rw[qcJ,a.2.2 C B p r b s,yl ag];apply yq ?_;apply .inl (zX x (qx (qaZ m)) ?_);apply vI ⟨by lk,by lk,by decide⟩ ?_;ext;rw[qev];show .inl (qea x (qdJ (by unfold qcK;rw[ya];show m)) ?_);rw[qc3];ext;have e2:(ns.set C (ns.getD C 0 ||| 2 ^ B)).getD B 0=ns.getD B 0:=by rw[qaG m,yE ai]
   show .inl (zX qb (qx (qaZ (by simpa using M))) ?_);apply vI ⟨by lk,by lk,by decide⟩ ?_;ext;rw[qev,e2];show .inl (qea qb (qdJ (by unfold qcK;rw[ya];simpa using M)) ?_);rw[qc3];show⟨_,_,_,_,rfl,qaO (qaO O n0) n0,qb,?_⟩;rw[J];show bits_step a af b s c
  .obtain⟨v3,v4,v5,ns,rfl,N,A,a⟩:=I;ext;rw[ya,L,yO] at a;show q n _ H' N n0 A a
inductive spWeb(cw:Addr)(vs:List V)(H:Hp)(Q:VK)(E:XK):Prop|mk (x dx a l:Addr) (ss:LS) (ts:LQ) (tps:LP) (_:vs=[.ref x,.ref a,.ref l]) (_:H x=some (.ins cw dx [])) (_:H a=some (.lst (ss.map V.str))) (_:ss.length<=14) (_:ss.Nodup) (_:(∀ s∈ss,zx s=true)) (_:PL H l ts tps) (_:TGo ss tps) (_:∀ ns H',But x H H'->WebN H cw H' x ss ns->qbf ss ns tps->Q .non H')
theorem PL.but{l:Addr}{fs:List (Str×V)}(h:PL H l ts tps)(a:H x=some (.ins C dx fs))(b:But x H H'):PL H' l ts tps:=
 ⟨b _ _ (zB h.1 a (by intro z;cases z)) h.1,h.2.mono fun t ab e=>b _ _ (zB e a (by intro z;cases z)) e⟩
theorem ok_web(F:Fun K "__init__" "Web.__init__" qab f fd)(T:Txt K mg cc cw)(uO:DefOk P w K mg base CX0 4 "numbers_of" ["names"] spNums)(X:DefOk P w K mg base CX0 4 "near_of" ["numbers","ties"] spNear) :
  FnOk P w K mg base CX0 5 f fd ["self","names","ties"] (spWeb cw):=by
 show F.ok uS fun _ _ _ _ H vs Q E M h=>?_
 .obtain⟨x,dx,a,l,ss,ts,tps,rfl,U,ha,j,nd,p,L,hg,q⟩:=h;have hu:=ze M;show⟨_,(qc (jT (K:=K) rfl (pv 0) (qp uO (hmR M) qz (qa (pv 1) qd)) rfl)
 (qc (jT (K:=K) rfl (pv 0) (qat (qcF (K:=K) rfl rfl) rfl T.b_list Xz (qa (qB (K:=K) rfl (pv 0) rfl) qd)) rfl)
 (qe (jT (K:=K) rfl (pv 0) (qp X (hmR M) qz (qa (qB (K:=K) rfl (pv 0) rfl) (qa (pv 2) qd))) rfl)))),?_⟩
  apply⟨a,ss,rfl,ha,j,nd,p,fun d H1 W J R=>?_⟩;have Y:=(But.refl x H).same W;have A:=W _ _ U;have r:d≠x:=zB R A (by intro z;cases z);apply .inl ⟨x,cw,dx,[],rfl,A,T.wcl,T.wn,by decide,?_⟩;have I:=Y.put (o:=.ins cw dx (qD "numbers" (.ref d) []));have g:upd H1 x (.ins cw dx (qD "numbers" (.ref d) [])) d=some (.dK (qbd ss 0)):=by rw[qf r];show R
  have c:upd H1 x (.ins cw dx (qD "numbers" (.ref d) [])) x=_:=qb;generalize upd H1 x (.ins cw dx (qD "numbers" (.ref d) []))=H2 at I g c;apply .inl ⟨x,cw,dx,_,.ref d,rfl,c,T.wcl,T.wn,by rw[qA,yG rfl],?_⟩;apply .inr (.inl ⟨d,_,rfl,g,fun ol s=>?_⟩);rw[qco];have no:ol≠x:=fun e=>by subst e;rw[c] at s;cases s
  have Z:=I.new (o:=.lst (ss.map V.str)) s
  have y:H ol=none:=by
   cases O:H ol with
   | none=>rfl
   | some o'=>rw[I ol o' no O] at s;cases s
  have N:d≠ol:=qI g s;apply .inl ⟨x,cw,dx,_,rfl,(by rw[qf no.symm];show c),T.wcl,T.wo,Yx (jF _ _ _) (by decide),?_⟩;have D:=Z.put (o:=.ins cw dx (qD "order" (.ref ol) (qD "numbers" (.ref d) [])));have m:upd (upd H2 ol (.lst (ss.map V.str))) x (.ins cw dx (qD "order" (.ref ol) (qD "numbers" (.ref d) []))) d=some (.dK (qbd ss 0)):=by rw[qf r,qf N];show g
  have v:upd (upd H2 ol (.lst (ss.map V.str))) x (.ins cw dx (qD "order" (.ref ol) (qD "numbers" (.ref d) []))) ol=some (.lst (ss.map V.str)):=by rw[qf no];show qb
  have i:upd (upd H2 ol (.lst (ss.map V.str))) x (.ins cw dx (qD "order" (.ref ol) (qD "numbers" (.ref d) []))) x=_:=qb;generalize upd (upd H2 ol (.lst (ss.map V.str))) x (.ins cw dx (qD "order" (.ref ol) (qD "numbers" (.ref d) [])))=H3 at D m v i;apply .inl ⟨x,cw,dx,_,.ref d,rfl,i,T.wcl,T.wn,by rw[qA,yE (by room),qA,yG rfl],?_⟩;apply⟨d,l,ss,ts,tps,rfl,m,j,nd,p,L.but U D,hg,fun n ns H4 G t S b=>?_⟩;have B:=G _ _ i;have C:n≠x:=zB S B (by intro z;cases z);apply .inl ⟨x,cw,dx,_,rfl,B,T.wcl,T.wr,Yx (jF _ _ _) (Yx (kK (jF _ _ _)) (by decide)),?_⟩
  have u:H n=none:=by
   cases O:H n with
   | none=>rfl
   | some o'=>rw[D n o' C O] at t;cases t
  show q ns _ (D.same G).put ⟨dx,d,ol,n,qb,by rw[qf r];show G _ _ m,by rw[qf no];show G _ _ v,by rw[qf C];show S,⟨b.1,j,nd,b.2.1,p⟩,J,y,u⟩ b
theorem uH:FnScope ["self"] ["self"] (qh zo):=fS
theorem uo:FnScope ["self","thing"] ["self","thing"] (qh jL):=fS
theorem uq:FnScope ["self","place"] ["self","place"] (qh jM):=fS
theorem uI:FnScope ["self","place"] ["self","place"] (qh zq):=fS
theorem ud:FnScope ["self","place"] ["self","place"] (qh ju):=fS
theorem ul:FnScope ["self","one","other","bits"] ["self","one","other"] (qh qac):=fS
theorem uv:FnScope ["self","bits"] ["self","bits"] (qh jA):=fS
theorem zf{d n:V}:(qD "near" n (qD "order" ol (qD "numbers" d []))).lookup ("numbers":Str)=some d:=by
 rw[qA,yE (by room),qA,yE (by room),qA,yG rfl]
theorem qbM{d n:V}:(qD "near" n (qD "order" ol (qD "numbers" d []))).lookup ("order":Str)=some ol:=by
 rw[qA,yE (by room),qA,yG rfl]
theorem lk_near{d n:V}:(qD "near" n (qD "order" ol (qD "numbers" d []))).lookup ("near":Str)=some n:=by
 rw[qA,yG rfl]
theorem j5{f:Str}{d n:V}(h:(f=="near"||f=="order"||f=="numbers")=false):(qD "near" n (qD "order" ol (qD "numbers" d []))).lookup f=none:=by
 simp only[Bool.or_eq_false_iff,Yz] at h;rw[qA,yE h.1.1,qA,yE h.1.2,qA,yE h.2];rfl
noncomputable def inB:LS->Nat->Nat->LS
 | [],_,_=>[]
 | s::r,i,b=>if b.testBit i=true then s::inB r (i+1) b else inB r (i+1) b
theorem qa0(y:Str)(b:Nat):∀(l:LS) (k:Nat),inB (l++[y]) k b=inB l k b++(if b.testBit (k+l.length)=true then [y] else [])
 | [],k=>by simp[inB]
 | s::r,k=>by
  have a:=qa0 y b r (k+1);have e:k+1+r.length=k+(s::r).length:=by simp;lk
  rw[e] at a;simp only[kL,inB,a];split<;>simp
theorem qaP(b:Nat):∀(l:LS) (k:Nat),(inB l k b).length<=l.length
 | [],_=>yh _
 | s::r,k=>by
  have a:=qaP b r (k+1);simp only[inB];split
  .simp;lk
  .simp;lk
inductive spHas(cw:Addr)(vs:List V)(H:Hp)(Q:VK)(E:XK):Prop|mk (x:Addr) (ss:LS) (ns:LN) (y:Str) (_:vs=[.ref x,.str y]) (_:WebAt cw H x ss ns) (_:y∈ss) (_:∀ H',L2.Same H H'->Q (.bl true) H')
inductive spNum(cw:Addr)(vs:List V)(H:Hp)(Q:VK)(E:XK):Prop|mk (x:Addr) (ss:LS) (ns:LN) (y:Str) (j:Nat) (_:vs=[.ref x,.str y]) (_:WebAt cw H x ss ns) (_:ss[j]?=some y) (_:∀ H',L2.Same H H'->Q (.int (j:Nat)) H')
inductive spBB(cw:Addr)(vs:List V)(H:Hp)(Q:VK)(E:XK):Prop|mk (x:Addr) (ss:LS) (ns:LN) (y:Str) (j:Nat) (_:vs=[.ref x,.str y]) (_:WebAt cw H x ss ns) (_:ss[j]?=some y) (_:∀ H',L2.Same H H'->Q (.int (ns.getD j 0:Nat)) H')
inductive spNIn(cw:Addr)(vs:List V)(H:Hp)(Q:VK)(E:XK):Prop|mk (x:Addr) (ss:LS) (ns:LN) (b:Nat) (_:vs=[.ref x,.int b]) (_:WebAt cw H x ss ns) (_:∀ l,H l=none->Q (.ref l) (upd H l (.lst ((inB ss 0 b).map V.str))))
inductive spBs(cw:Addr)(vs:List V)(H:Hp)(Q:VK)(E:XK):Prop|mk (x:Addr) (ss:LS) (ns:LN) (y:Str) (j:Nat) (_:vs=[.ref x,.str y]) (_:WebAt cw H x ss ns) (_:ss[j]?=some y) (_:∀ H',L2.Same H H'->∀ l,H' l=none->Q (.ref l) (upd H' l (.lst ((inB ss 0 (ns.getD j 0)).map V.str))))
inductive spTied(cw:Addr)(vs:List V)(H:Hp)(Q:VK)(E:XK):Prop|mk (x:Addr) (ss:LS) (ns:LN) (y z:Str) (j i:Nat) (_:vs=[.ref x,.str y,.str z]) (_:WebAt cw H x ss ns) (_:ss[j]?=some y) (_:ss[i]?=some z) (_:∀ H',L2.Same H H'->Q (.bl ((ns.getD j 0).testBit i)) H')
inductive spPls(cw:Addr)(vs:List V)(H:Hp)(Q:VK)(E:XK):Prop|mk (x:Addr) (ss:LS) (ns:LN) (_:vs=[.ref x]) (_:WebAt cw H x ss ns) (_:∀ l,H l=none->Q (.ref l) (upd H l (.lst (ss.map V.str))))
theorem ok_has(F:Fun K "has_place" "Web.has_place" jL f fd)(T:Txt K mg cc cw)(b:DefOk P w K mg base CX0 2 "is_place" ["numbers","thing"] spPlace):FnOk P w K mg base CX0 3 f fd ["self","thing"] (spHas cw):=by
 show F.ok uo fun _ _ _ _ H vs Q E e h=>?_
 .obtain⟨x,ss,ns,y,rfl,⟨dx,d,ol,n,g,c,j,i,hw⟩,a,q⟩:=h;show⟨_,(qe (qo (qp b (hmR e) qz (qa (qB (K:=K) rfl (pv 0) rfl) (qa (pv 1) qd))))),?_⟩;apply .inl ⟨x,cw,dx,_,.ref d,rfl,g,T.wcl,T.wn,zf,?_⟩;apply⟨d,ss,y,rfl,c,hw.nm _ a,a,q⟩
theorem ok_num(F:Fun K "number_of" "Web.number_of" jM f fd)(T:Txt K mg cc cw)(o:MethOk P w K mg base CX0 3 cw "has_place" ["self","thing"] (spHas cw)):FnOk P w K mg base CX0 4 f fd ["self","place"] (spNum cw):=by
 show F.ok uq fun _ _ _ _ H vs Q E e h=>?_
 .obtain⟨x,ss,ns,y,j,rfl,c,b,q⟩:=h;obtain⟨dx,d,ol,n,g,r,v,u,hw⟩:=id c;have l:=ye b;have s:=ze e;show⟨_,(qc (qM (jm (qX (qF o (hmR e) (pv 0) (qa (pv 1) qd)))) (qe jK) qq)
 (qe (qo (qt (qu (K:=K) rfl s) (qB (K:=K) rfl (pv 0) rfl) (pv 1) (fun _ _=>rfl))))),?_⟩
  apply⟨x,dx,_,rfl,g,j5 (by room),?_⟩;apply⟨x,ss,ns,y,rfl,c,l,fun H1 a=>?_⟩;apply yq ?_;obtain⟨i,t,p,m⟩:=jZ (i:=0) l;rw[Xi,qG hw.nd p b] at m;apply .inl ⟨x,cw,dx,_,.ref d,rfl,a _ _ g,T.wcl,T.wn,zf,?_⟩;apply .inr ⟨d,.int j,rfl,?_,q H1 a⟩;have:=DGet.k (k:=Sum.inr y) (a _ _ r);rw[m] at this;show this
theorem ok_bb(F:Fun K "bits_beside" "Web.bits_beside" ju f fd)(T:Txt K mg cc cw)(i:MethOk P w K mg base CX0 4 cw "number_of" ["self","place"] (spNum cw)):FnOk P w K mg base CX0 5 f fd ["self","place"] (spBB cw):=by
 show F.ok ud fun _ _ _ _ H vs Q E c h=>?_
 .obtain⟨x,ss,ns,y,j,rfl,b,a,q⟩:=h;obtain⟨dx,d,ol,n,e,o,p,l,hw⟩:=id b;have m:=ze c;show⟨_,(qe (qo (qt (qu (K:=K) rfl m) (qB (K:=K) rfl (pv 0) rfl) (qF i (hmR c) (pv 0) (qa (pv 1) qd)) (fun _ _=>rfl)))),?_⟩;apply .inl ⟨x,cw,dx,_,.ref n,rfl,e,T.wcl,T.wr,lk_near,?_⟩;apply⟨x,dx,_,rfl,e,j5 (by room),?_⟩;apply⟨x,ss,ns,y,j,rfl,b,a,fun H1 g=>?_⟩;show .inl (zX (g _ _ l) (qx (qaZ (by rw[hw.len];show(yc.mp a).1))) (q H1 g))
theorem ok_nin(F:Fun K "names_in" "Web.names_in" jA f fd)(T:Txt K mg cc cw)(z:DefOk P w K mg base CX0 1 "has_bit" ["bits","number"] spBit):FnOk P w K mg base CX0 2 f fd ["self","bits"] (spNIn cw):=by
 show F.ok uv fun _ _ _ _ H vs Q E t h=>?_
 .obtain⟨x,ss,ns,b,rfl,⟨dx,d,ol,n,u,C,s,J,hw⟩,q⟩:=h;have G:=ze t;show⟨_,(qe (qo (jG (sc:=qh jA) (XN:=["self","bits"]) ["name","bits","self"] 1 [1,0] rfl rfl rfl (by room) rfl (by room)
  (qL (K:=K) rfl (qB (K:=K) rfl (pv 0) rfl)) (fun _ _ _ _=>(qk (i:=0) (show(["name","bits","self"]:LS).Nodup by room) rfl (yP rfl))) qW
  (fun _ _ _ _=>(ji (qX (qp z (hmR t) qz (qa (pv 1) (qa (qt (qu (K:=K) rfl G) (qB (K:=K) rfl (pv 2) rfl) (pv 0) (fun _ _=>rfl)) qd))))))
  (fun _ _ _ _=>(pv 0))))),?_⟩
  apply .inl ⟨x,cw,dx,_,.ref ol,rfl,u,T.wcl,T.wo,qbM,?_⟩;show .inl ⟨⟨_,SqL.of s⟩,qK (K:=K) (fun i ys H'=>H'=H/\ys=(inB (ss.take i) 0 b).map V.str) ⟨rfl,by simp[inB]⟩ (fun i ys H' _ e=>by rw[e.1];show SqL.of s) (fun i y ys H' p e=>?_) fun ys H' e=>?_⟩
  .obtain⟨rfl,rfl⟩:=e;have D:i<ss.length:=by simpa using(yc.mp p).1
   have c:ss[i]?=some ss[i]:=yb D;generalize ss[i]=r at c;have A:y=.str r:=by rw[yd,c] at p;cases p;rfl
   subst A;obtain⟨j,I,B,v⟩:=jZ (i:=0) (ye c);rw[Xi] at v;have o:j=i:=qG hw.nd B c;subst o;have g:ss.take (j+1)=ss.take j++[r]:=by rw[yH,c];rfl
   have a:(ss.take j).length=j:=by rw[yK];lk
   apply .inl ⟨x,cw,dx,_,.ref d,rfl,u,T.wcl,T.wn,zf,?_⟩;apply .inr ⟨d,.int j,rfl,?_,?_⟩
   .have:=DGet.k (k:=Sum.inr r) C;rw[v] at this;show this
   apply⟨_,_,rfl,by lk,?_⟩;rw[qcJ];ext
   have few:((inB (ss.take j) 0 b).map V.str).length<sizeLine:=by
    rw[ya];show qi (yi (qaP _ _ _) (by rw[a];have:=hw.few;lk))
   show qJ (fun hb=>?_) fun hb=>?_
   .ext;show⟨few,rfl,?_⟩;rw[g,qa0,a,Xi,yG hb];simp
   .show⟨rfl,?_⟩;rw[g,qa0,a,Xi,yE hb];simp
  .obtain⟨rfl,rfl⟩:=e;have m:ss.take (ss.map V.str).length=ss:=by rw[ya,yO]
   rw[m];show⟨?_,fun l hl=>q l hl⟩;rw[ya];show yT (qi (yi (qaP _ _ _) (by have:=hw.few;lk)))
theorem ok_bs(F:Fun K "beside" "Web.beside" zq f fd)(T:Txt K mg cc cw)(g:MethOk P w K mg base CX0 5 cw "bits_beside" ["self","place"] (spBB cw))(l:MethOk P w K mg base CX0 2 cw "names_in" ["self","bits"] (spNIn cw)):FnOk P w K mg base CX0 6 f fd ["self","place"] (spBs cw):=by
 show F.ok uI fun _ _ _ _ H vs Q E b h=>?_
 .obtain⟨x,ss,ns,y,j,rfl,a,i,q⟩:=h;obtain⟨dx,d,ol,n,c,_⟩:=id a;show⟨_,(qe (qo (qF l (hmR b) (pv 0) (qa (qF g (hmR b) (pv 0) (qa (pv 1) qd)) qd)))),?_⟩;apply⟨x,dx,_,rfl,c,j5 (by room),?_⟩;apply⟨x,dx,_,rfl,c,j5 (by room),?_⟩;apply⟨x,ss,ns,y,j,rfl,a,i,fun H1 e=>?_⟩;apply⟨x,ss,ns,_,rfl,a.same e,q H1 e⟩
theorem ok_tied(F:Fun K "tied" "Web.tied" qac f fd)(T:Txt K mg cc cw)(g:MethOk P w K mg base CX0 5 cw "bits_beside" ["self","place"] (spBB cw))(l:MethOk P w K mg base CX0 4 cw "number_of" ["self","place"] (spNum cw))
  (m:DefOk P w K mg base CX0 1 "has_bit" ["bits","number"] spBit):FnOk P w K mg base CX0 6 f fd ["self","one","other"] (spTied cw):=by
 show F.ok ul fun _ _ _ _ H vs Q E b h=>?_
 .obtain⟨x,ss,ns,y,z,j,i,rfl,a,p,o,q⟩:=h;obtain⟨dx,d,ol,n,e,_⟩:=id a;show⟨_,(qc (qm (i:=3) ul.nd rfl (yP rfl) (qF g (hmR b) (pv 0) (qa (pv 1) qd)))
 (qe (qo (qp m (hmR b) qz (qa (pv 3) (qa (qF l (hmR b) (pv 0) (qa (pv 2) qd)) qd)))))),?_⟩
  apply⟨x,dx,_,rfl,e,j5 (by room),?_⟩;apply⟨x,ss,ns,y,j,rfl,a,p,fun H1 c=>?_⟩;apply⟨x,dx,_,rfl,c _ _ e,j5 (by room),?_⟩;apply⟨x,ss,ns,z,i,rfl,a.same c,o,fun H2 r=>?_⟩;apply⟨_,_,rfl,by lk,?_⟩;rw[qcJ];show q H2 (c.trans r)
theorem ok_pls(F:Fun K "places" "Web.places" zo f fd)(T:Txt K mg cc cw):FnOk P w K mg base CX0 1 f fd ["self"] (spPls cw):=by
 show F.ok uH fun _ _ _ _ H vs Q E g h=>?_
 .obtain⟨x,ss,ns,rfl,⟨dx,d,ol,n,b,c,a,e,hw⟩,q⟩:=h;show⟨_,(qe (qo (qat (qcF (K:=K) rfl rfl) rfl T.b_list Xz (qa (qB (K:=K) rfl (pv 0) rfl) qd)))),?_⟩;apply .inl ⟨x,cw,dx,_,.ref ol,rfl,b,T.wcl,T.wo,qbM,?_⟩;apply .inl ⟨ol,_,rfl,.inl (SqL.of a),q⟩
inductive Rch(ns:LN)(i:Nat):Nat->Prop
 | zero:Rch ns i i
 | step {a b:Nat} (h:Rch ns i a) (t:(ns.getD a 0).testBit b=true):Rch ns i b
inductive spPc(vs:List V)(H:Hp)(Q:VK)(E:XK):Prop|mk (n:Addr) (ns:LN) (i:Nat) (_:vs=[.ref n,.int i]) (_:H n=some (.lst (qcK ns))) (_:i<ns.length) (_:ns.length<=14) (_:(∀ a,ns.getD a 0<2 ^ ns.length)) (_:∀(b:Nat) (H':Hp),L2.Same H H'->(∀ c,b.testBit c=true↔Rch ns i c)->Q (.int b) H')
noncomputable def isRep(ns:LN)(k:Nat):Bool:=@decide (∀ j,j<k->¬ Rch ns j k) (Classical.propDecidable _)
noncomputable def reps(ns:LN)(n:Nat):LN:=(List.range n).filter (isRep ns)
open Classical in
noncomputable def compS(ss:LS)(ns:LN)(k:Nat):LS:=ss.filter fun s=>decide (Rch ns k (ss.idxOf s))
theorem qdK(b:ss.Nodup)(h:ss[i]?=some s):ss.idxOf s=i:=by
 have a:s∈ss:=ye h;have hl:ss.idxOf s<ss.length:=YM a;show qG b (by rw[yb hl,xo]) h
theorem qad(e:ss.Nodup)(b:Nat):inB ss 0 b=ss.filter fun s=>b.testBit (ss.idxOf s):=by
 have key:∀ k,k<=ss.length->inB (ss.take k) 0 b=(ss.take k).filter fun s=>b.testBit (ss.idxOf s):=fun k=>by
  induction k with
  | zero=>intro _;simp[inB]
  | succ k ih =>
   intro g;have a:ss[k]?=some ss[k]:=yb (by lk);generalize ss[k]=f at a;have d:ss.take (k+1)=ss.take k++[f]:=by rw[yH,a];rfl
   have c:(ss.take k).length=k:=by rw[yK];lk
   rw[d,qa0,Yc,ih (by lk),c,Xi]
   congr 1
   rw[yL,Yw,qdK e a]
 have:=key ss.length (yh _)
 rwa[yO] at this
def PcAt(H H':Hp)(l:Addr)(a:Addr)(b:LS):Prop:=H a=none/\a≠l/\H' a=some (.lst (b.map V.str))
inductive spPcs(cw:Addr)(vs:List V)(H:Hp)(Q:VK)(E:XK):Prop|mk (x:Addr) (ss:LS) (ns:LN) (_:vs=[.ref x]) (_:WebAt cw H x ss ns) (_:∀(l:Addr) (ls:LQ) (H':Hp),L2.Same H H'->H l=none->H' l=some (.lst (ls.map V.ref))->All2 (PcAt H H' l) ls ((reps ns ss.length).map (compS ss ns))->Q (.ref l) H')
theorem KO:FnScope ["self","ties","one","other"] ["self"] (qh qae):=fS
theorem qdL(a:ss.Nodup){b:Nat}(h:s∈inB ss 0 b):s∈ss/\b.testBit (ss.idxOf s)=true:=by
 rw[qad a] at h;show yp.mp h
noncomputable def qeO(ss:LS)(ns:LN)(i:Nat):LP:=((inB ss 0 (ns.getD i 0)).filter fun o=>decide (i<ss.idxOf o)).map fun o=>(ss.getD i "",o)
noncomputable def qR(ss:LS)(ns:LN)(i:Nat):LP:=(List.range i).flatMap (qeO ss ns)
def PrAt(H H':Hp)(l:Addr)(t:Addr)(ab:Str×Str):Prop:=H t=none/\t≠l/\H' t=some (.tup [.str ab.1,.str ab.2])
theorem PrAt.same{l t:Addr}(h:PrAt H H1 l t ab)(s:L2.Same H1 H2):PrAt H H2 l t ab:=⟨h.1,h.2.1,s _ _ h.2.2⟩
inductive spTs(cw:Addr)(vs:List V)(H:Hp)(Q:VK)(E:XK):Prop|mk (x:Addr) (ss:LS) (ns:LN) (_:vs=[.ref x]) (_:WebAt cw H x ss ns) (_:∀(l:Addr) (ts:LQ) (H':Hp),L2.Same H H'->H l=none->H' l=some (.lst (ts.map V.ref))->ts.length<=196->All2 (PrAt H H' l) ts (qR ss ns ss.length)->Q (.ref l) H')
theorem ok_ts(F:Fun K "ties" "Web.ties" qae f fd)(T:Txt K mg cc cw)(Ks:MethOk P w K mg base CX0 6 cw "beside" ["self","place"] (spBs cw)):FnOk P w K mg base CX0 7 f fd ["self"] (spTs cw):=by
 show F.ok KO fun _ _ _ _ H vs Q E hr h=>?_
 .obtain⟨x,ss,ns,rfl,hW,q⟩:=h;have hu:=ze hr;obtain⟨dx,d,ol,n,hx,hd,ho,hn,hw⟩:=id hW;have few:=hw.few
  have Y:∀(H1:Hp) (y:Str) (i:Nat),L2.Same H H1->ss[i]?=some y->DGet H1 d (.str y) (some (.int (i:Nat))):=fun H1 y i R D=>by
   obtain⟨j,hj,gj,vj⟩:=jZ (i:=0) (ye D);rw[Xi] at vj;have af:j=i:=qG hw.nd gj D;subst af;have:=DGet.k (k:=Sum.inr y) (R _ _ hd);rw[vj] at this;show this
  show⟨_,(qc (qm (i:=1) KO.nd rfl (yP rfl) (jg qd))
 (qc (jo yZ rfl (qL (K:=K) rfl (qB (K:=K) rfl (pv 0) rfl)) (qk (i:=2) KO.nd rfl (yP rfl))
 (qe (jo yZ rfl (qL (K:=K) rfl (qF Ks (hmR hr) (pv 0) (qa (pv 2) qd))) (qk (i:=3) KO.nd rfl (yP rfl))
 (qe (qM (qj qdc (qt (qu (K:=K) rfl hu) (qB (K:=K) rfl (pv 0) rfl) (pv 2) (fun _ _=>rfl)) (qt (qu (K:=K) rfl hu) (qB (K:=K) rfl (pv 0) rfl) (pv 3) (fun _ _=>rfl)) (qw _)) (qe (qQ (qby (K:=K) rfl yV Yi Yj je (pv 1) (qa (jS (qa (pv 2) (qa (pv 3) qd))) qd)))) qq)))))
 (qe (qo (pv 1))))),?_⟩
  apply⟨by decide,fun l hl=>?_⟩;have s0:=qC (Sr H) (o:=.lst []) hl;apply .inl ⟨x,cw,dx,_,.ref ol,rfl,s0 _ _ hx,T.wcl,T.wo,qbM,?_⟩;show .inl ⟨⟨_,SqL.of (s0 _ _ ho)⟩,qN (K:=K) (fun i J H'=>∃(ts:LQ) (x2 U:Option V),J=[some (.ref x),some (.ref l),x2,U]/\L2.Same H H'/\H' l=some (.lst (ts.map V.ref))/\ts.length<=i*14/\All2 (PrAt H H' l) ts (qR ss ns i))
   ⟨[],none,none,rfl,s0,qb,by simp,All2.nil⟩ (fun i J H' _ B=>by obtain⟨_,_,_,_,z,_⟩:=B;show SqL.of (z _ _ ho)) (fun i y J H1 hy B=>?_) fun J H1 B=>?_⟩
  .obtain⟨ts,x2,U,rfl,R,G,s,c⟩:=B;have hi:i<ss.length:=by simpa using(yc.mp hy).1
   have D:ss[i]?=some ss[i]:=yb hi;generalize ss[i]=p at D;have ey:y=.str p:=by rw[yd,D] at hy;cases hy;rfl
   subst ey;have al:=hw.nm p (ye D);apply⟨x,dx,_,rfl,R _ _ hx,j5 (by room),?_⟩;apply⟨x,ss,ns,p,i,rfl,hW.same R,D,fun H2 s2 b hb=>?_⟩;have s3:=R.trans s2;have s4:=qC s3 (o:=.lst ((inB ss 0 (ns.getD i 0)).map V.str)) hb;have S:=qC s2 (o:=.lst ((inB ss 0 (ns.getD i 0)).map V.str)) hb;have eb:upd H2 b (.lst ((inB ss 0 (ns.getD i 0)).map V.str)) b=some (.lst ((inB ss 0 (ns.getD i 0)).map V.str)):=qb;have ah:b≠l:=fun e=>by rw[e,s2 _ _ G] at hb;cases hb
   have aj:H b=none:=s3.free hb;show .inl ⟨⟨_,SqL.of qb⟩,?_⟩;generalize upd H2 b (.lst ((inB ss 0 (ns.getD i 0)).map V.str))=H3 at s4 S eb ⊢;have L:∀ o,o∈inB ss 0 (ns.getD i 0)->o∈ss:=fun o h=>(qdL hw.nd h).1;have ad:=qaP (ns.getD i 0) ss 0;have r:qeO ss ns i=((inB ss 0 (ns.getD i 0)).filter fun o=>decide (i<ss.idxOf o)).map fun o=>(ss.getD i "",o):=rfl;have aa:ss.getD i ""=p:=by simp[List.getD,D]
   rw[aa] at r;generalize ak:inB ss 0 (ns.getD i 0)=bs at eb L ad r ⊢;show qN (K:=K) (fun k J H'=>∃(us:LQ) (U:Option V),J=[some (.ref x),some (.ref l),some (.str p),U]/\L2.Same H H'/\H' b=some (.lst (bs.map V.str))/\H' l=some (.lst (us.map V.ref))/\us.length<=i*14+k/\All2 (PrAt H H' l) us (qR ss ns i++((bs.take k).filter fun o=>decide (i<ss.idxOf o)).map fun o=>(p,o)))
    ⟨ts,_,rfl,s4,eb,S _ _ G,s,by simpa using c.mono fun _ _ h=>h.same S⟩ (fun k J H' _ B=>by obtain⟨_,_,_,_,z,_⟩:=B;show SqL.of z) (fun k u J Z N B=>?_) fun J Z B=>?_
   .obtain⟨us,U,rfl,I,C,g,v,a⟩:=B;have hk:k<bs.length:=by simpa using(yc.mp N).1
    have gk:bs[k]?=some bs[k]:=yb hk;generalize bs[k]=m at gk;have eu:u=.str m:=by rw[yd,gk] at N;cases N;rfl
    subst eu;have ag:=L m (ye gk);have ae:=YM ag;have ac:ss[ss.idxOf m]?=some m:=by rw[yb ae,xo]
    have X:bs.take (k+1)=bs.take k++[m]:=by rw[yH,gk];rfl
    apply .inl ⟨x,cw,dx,_,.ref d,rfl,I _ _ hx,T.wcl,T.wn,zf,?_⟩;apply .inr ⟨d,.int i,rfl,Y Z p i I D,?_⟩;apply .inl ⟨x,cw,dx,_,.ref d,rfl,I _ _ hx,T.wcl,T.wn,zf,?_⟩;apply .inr ⟨d,.int (ss.idxOf m:Nat),rfl,Y Z m _ I ac,?_⟩;apply qJ (fun M=>?_) fun M=>?_
    .have A:i<ss.idxOf m:=by have:=yk M;lk
     apply⟨.inl ⟨rfl,_,SqL.of g⟩,?_⟩;apply⟨by show 2<=sizeLine;decide,fun t ht=>?_⟩;have O:l≠t:=qI g ht;have ai:b≠t:=qI C ht;have s6:=qC (Sr Z) (o:=.tup [.str p,.str m]) ht;apply⟨l,_,_,rfl,rfl,by rw[qf O];show g,by rw[ya];show qi (by have:i*14<=14*14:=Nat.mul_le_mul_right 14 (by lk);lk),?_⟩;show⟨us++[t],_,rfl,qaO (I.trans s6) hl,by rw[qf ah,qf ai];show C,by rw[qb,yC];rfl,by rw[yt];show us.length+1<=_;lk,?_⟩;rw[X,Yc,yC,<- yW];have W:([m].filter fun o=>decide (i<ss.idxOf o)).map (fun o=>(p,o))=[(p,m)]:=by simp[A]
     rw[W];show All2.snoc (a.mono fun t' ab h=>⟨h.1,h.2.1,?_⟩) ⟨I.free ht,O.symm,?_⟩
     .rw [qf h.2.1];show s6 _ _ h.2.2
     .rw [qf O.symm,qb]
    .have A:¬ i<ss.idxOf m:=fun h=>M (yD (by lk));show⟨us,_,rfl,I,C,g,by lk,?_⟩;have W:([m].filter fun o=>decide (i<ss.idxOf o)).map (fun o=>(p,o))=[]:=by simp[A]
     rw[X,Yc,yC,W,Yb];show a
   .obtain⟨us,U,rfl,I,C,g,v,a⟩:=B;rw[ya,yO] at a;rw[ya] at v;show⟨us,_,_,rfl,I,g,by lk,?_⟩;unfold qR at a ⊢;rw[k7,XC];have W:[i].flatMap (qeO ss ns)=(bs.filter fun o=>decide (i<ss.idxOf o)).map fun o=>(p,o):=by rw[<- r];simp
    rw[W];show a
  .obtain⟨ts,x2,U,rfl,R,G,s,c⟩:=B;rw[ya] at s c;apply q l ts H1 R hl G (by have:ss.length*14<=14*14:=Nat.mul_le_mul_right 14 few;lk) c
def Box(H:Hp)(p:Addr):Prop:=∃ a b c:Int,H p=some (.lst [.int a,.int b,.int c])
def BB(p:Addr)(H H':Hp):Prop:=(∀ b o,b≠p->H b=some o->H' b=some o)/\Box H' p
inductive spCell(K:W.Frag)(vs:List V)(H:Hp)(Q:VK)(E:XK):Prop|mk (a:Addr) (ns:LX) (k:Int) (_:vs=[.ref a,.int k]) (_:SqL K H a (ns.map V.int)) (_:0<=k) (_:k<1000) (_:∀ i:Int,Q (.int i) H)
noncomputable def NewH(H H':Hp):Hp:=fun a=>match H a with | none=>H' a | some _=>none
theorem jk:∀{l m:LS},l.Nodup->(∀ x∈l,x∈m)->l.length<=m.length
 | [],_,_,_=>YW _
 | x::r,m,hn,h=>by
  obtain⟨h1,c⟩:=yo.mp hn;have a:=h x yY;have d:=jk (l:=r) (m:=m.erase x) c fun y b=>(List.mem_erase_of_ne (fun e=>h1 (by rw[<- e];show b))).mpr (h y (yN _ b));rw[xR a] at d;have:0<m.length:=Xj a;simp only[yy];lk
theorem qbN(c:Str)(ss:LS):inV (.str c) (ss.map V.str)=decide (c∈ss):=by
 unfold inV;rw[Kg,YQ,xY,Yq];constructor
 .rintro ⟨y,a,e⟩;have:y=c:=eq_of_beq e;rw[<- this];show a
 .intro h;show⟨c,h,xE c⟩
theorem qcp(ss:LS):(ss.map V.str).all qai=true:=by rw[kS];show Ys.mpr fun _ _=>rfl
inductive spFresh(vs:List V)(H:Hp)(Q:VK)(E:XK):Prop|mk (l:Addr) (ss:LS) (_:vs=[.ref l]) (_:H l=some (.lst (ss.map V.str))) (_:ss.length<=14) (_:∀(x:Str) (H':Hp),L2.Same H H'->zx x=true->x∉ss->Q (.str x) H')
noncomputable def signs:LS:=("abcdefghijklmno":Str).cps.toList.map fun c=>⟨#[c]⟩
theorem slice_ix(k n:Nat):Builtin.Str.strSliceIndices none (some (k:Int)) 1 n=List.range (min k n):=by
 unfold Builtin.Str.strSliceIndices sliceRange;simp only[show(1:Int)>0 by decide,Xp];rw[yE (show ¬ ((k:Int)<0) by lk)];have a:max 0 (min (k:Int) n)=((min k n:Nat):Int):=by lk
 rw[a];have b:(fun(j:Nat)=>((0:Int)+1*(j:Int)).toNat)=id:=by funext j;show _=j;lk
 rw[b,List.map_id]
 congr 1
 split
 .rw [Kc];lk
 .omega
theorem qdM(a:Array Nat):∀ m,m<=a.size->(List.range m).filterMap (a[·]?)=a.toList.take m
 | 0,_=>rfl
 | m+1,h=>by
  rw[k7,List.filterMap_append,qdM a m (by lk),yH]
  congr 1
  have e:a[m]?=some a[m]:=xn (by lk);have b:a.toList[m]?=some a[m]:=by rw[xL];show e
  rw[b,xT,e];rfl
theorem qbB(z:Str)(k:Nat):(Txt.slice z none (some (k:Int))).cps.toList=z.cps.toList.take k:=by
 unfold Txt.slice;rw[slice_ix];have hz:z.length=z.cps.toList.length:=by simp[Str.length]
 split
 .rename_i h
  rw[List.length_range] at h;have:min k z.length=z.length:=by simpa using h
  rw[YD (by lk)]
 .show(List.filterMap _ _).toArray.toList=_;rw[qdM z.cps (min k z.length) (kJ _ _)];show z.cps.toList.take (min k z.length)=_;by_cases a:k<=z.length
  .rw [kh a]
  .rw [X3 (by lk),YD (by lk),YD (by lk)]
theorem qaH(a b:Str):(a++b).cps.toList=a.cps.toList++b.cps.toList:=by
 show(a.cps++b.cps).toList=_;show Array.toList_append
theorem qc4:∀{xs:LS},(∀ x∈xs,x.cps.toList.all sg=true)->(Str.join "" xs).cps.toList.all sg=true
 | [],_=>rfl
 | [x],h=>h x (by simp)
 | x::y::r,h=>by
  have e:Str.join "" (x::y::r)=x++""++Str.join "" (y::r):=rfl;rw[e,qaH,qaH,XG,XG,h x (by simp),qc4 fun z hz=>h z (yN _ hz)]
  room
theorem qeP{c:Nat}(h:97<=c)(a:c<=122):sg c=true:=by
 have key:∀ i,i<26->sg (97+i)=true:=by room
 have:=key (c-97) (by lk)
 rwa[show 97+(c-97)=c by lk] at this
theorem join_len{xs:LS}(h:∀ x∈xs,x.length=1):(Txt.join "" xs).length=xs.length:=by
 have e:Txt.join "" xs=Str.join "" xs:=Ye.mp (join_plain_closes "" xs);rw[e]
 cases xs with
 | nil=>rfl
 | cons a l =>
  rw[len_join_cons]
  have key:∀ l:LS,(∀ x∈l,x.length=1)->(l.map (·.length)).sum=l.length:=by
   intro l
   induction l with
   | nil=>intro _;rfl
   | cons a l ih =>
    intro h;rw[YF,List.sum_cons,h a yY,ih fun x b=>h x (yN _ b),yy];lk
  have z:("":Str).length=0:=by room
  rw[key _ h,z];lk
theorem qc5{xs:LS}(h:∀ x∈xs,x.length=1):(xs.map (·.length)).sum=xs.length:=by
 induction xs with
 | nil=>rfl
 | cons a l ih =>
  rw[YF,List.sum_cons,h a yY,ih fun x b=>h x (yN _ b),yy];lk
def Signs(p:Addr)(H:Hp)(i:Nat)(ys:List V)(H':Hp):Prop:=BB p H H'/\∃ xs:LS,ys=xs.map V.str/\xs.length=i/\∀ x∈xs,x.length=1/\x.cps.toList.all sg=true
noncomputable def L26:Str:="abcdefghijklmnopqrstuvwxyz"
theorem qdN{i:Int}(a:0<=i)(h1:i<26):atI L26.cps.toList i=some (97+i.toNat):=by
 obtain⟨n,rfl⟩:=Int.eq_ofNat_of_zero_le a;have key:∀ n,n<26->L26.cps.toList[n]?=some (97+n):=by room
 rw[YB];show qx (key n (by lk))
theorem qc6{x:Str}{l:LN}(e:x.cps.toList=l)(h1:1<=l.length)(a:l.length<=6)(h:l.all sg=true):zx x=true:=by
 have hl:x.length=l.length:=by rw[<- e];simp[Str.length]
 unfold zx;rw[yG ⟨by lk,by lk⟩,e];show h
theorem qcq(h:∀(i j:Nat) (s:Str),ss[i]?=some s->ss[j]?=some s->i=j):ss.Nodup:=by
 show xm.mpr fun i j a c b e=>?_;have:=h i j ss[j] (by rw[yb a,e]) (yb c);lk
def NL(p:Addr)(H':Hp)(l:Addr)(ss:LS):Prop:=H' l=some (.lst (ss.map V.str))/\l≠p
structure NOk(ss:LS):Prop where
 few:ss.length<=14
 nd:ss.Nodup
 nm:∀ s∈ss,zx s=true
def PrT(p:Addr)(H:Hp)(t:Addr)(ab:Str×Str):Prop:=t≠p/\H t=some (.tup [.str ab.1,.str ab.2])
def TL(p:Addr)(H:Hp)(l:Addr)(ts:LQ)(tps:LP):Prop:=H l=some (.lst (ts.map V.ref))/\l≠p/\All2 (PrT p H) ts tps
structure TOk(ss:LS)(tps:LP):Prop where
 few:tps.length<=30
 ok:∀ ab∈tps,∃ j k:Nat,j<k/\ss[j]?=some ab.1/\ss[k]?=some ab.2
 nd:tps.Nodup
inductive spTies(vs:List V)(H:Hp)(Q:VK)(E:XK):Prop|mk (p n:Addr) (ss:LS) (_:vs=[.ref p,.ref n]) (_:Box H p) (_:NL p H n ss) (_:NOk ss) (_:∀(l:Addr) (ts:LQ) (tps:LP) (H':Hp),BB p H H'->H l=none->TL p H' l ts tps->TOk ss tps->Q (.ref l) H')
def Shuf(tps d:LP):Prop:=∃ c,d.Perm c/\All2 (fun a b=>b=a\/b=(a.2,a.1)) tps c
inductive spShuf(vs:List V)(H:Hp)(Q:VK)(E:XK):Prop|mk (p l:Addr) (ts:LQ) (tps:LP) (_:vs=[.ref p,.ref l]) (_:Box H p) (_:TL p H l ts tps) (_:tps.length<=30) (_:∀(l':Addr) (us:LQ) (ups:LP) (H':Hp),BB p H H'->H l'=none->TL p H' l' us ups->Shuf tps ups->Q (.ref l') H')
theorem pair_eqD{a b:Addr}{s' t':Str}(hb:H b=some (.tup [.str s',.str t']))(f:H a=some (.tup [.str s,.str t])):EqD K H 1 (.ref b) (.ref a) (decide ((s',t')=(s,t))):=by
 by_cases e:b=a
 .subst e;rw[hb] at f;cases f;rw[yD rfl];show .self
 .have z:=EqT.tup (K:=K) (H:=H) (n:=0) (e:=fun j=>if j=0 then eqV (.str s') (.str s) else eqV (.str t') (.str t)) (SqT.of hb) (SqT.of f) fun j x y c d=>by
   match j,c,d with
   | 0,c,d=>cases c;cases d;show .flat rfl rfl
   | 1,c,d=>cases c;cases d;show .flat rfl rfl
  have g:((List.range (min [V.str s',V.str t'].length [V.str s,V.str t].length)).all (fun j=>if j=0 then eqV (.str s') (.str s) else eqV (.str t') (.str t))&&[V.str s',V.str t'].length==[V.str s,V.str t].length)=decide ((s',t')=(s,t)):=by
   show((s'==s)&&((t'==t)&&true)&&true)=_;rw[YQ];simp
  rw[g] at z;show .deep z e
noncomputable def qdk(H:Hp)(z:V):Option (Str×Str):=match z with
 | .ref t=>(match H t with
  | some (.tup [.str a,.str b])=>some (a,b)
  | _=>none)
 | _=>none
theorem qbO{t:Addr}(h:H t=some (.tup [.str a,.str b])):qdk H (.ref t)=some (a,b):=by
 unfold qdk;dsimp only;rw[h]
theorem any_in(h:All2 (fun t ab=>H t=some (.tup [.str ab.1,.str ab.2])) ts tps)(st:Str×Str):((ts.map V.ref).any fun z=>decide (qdk H z=some st))=decide (st∈tps):=by
 rw[YQ,xY,Yq];constructor
 .rintro ⟨z,hz,e⟩;obtain⟨t,f,rfl⟩:=YH.mp hz;obtain⟨ab,b,r⟩:=h.mem f;have e:=yk e;rw[qbO r] at e;cases e;show b
 .intro d;obtain⟨k,c,e⟩:=List.getElem_of_mem d;have a:k<ts.length:=by rw[h.len];show c
  have r:=h.at_ k ts[k] tps[k] (yb a) (yb c);show⟨.ref ts[k],YH.mpr ⟨_,Xy a,rfl⟩,yD ?_⟩;rw[qbO r,e]
theorem qfn{l a:Addr}{Q:VK}(h:PL H l ts tps)(d:H a=some (.tup [.str s,.str t]))(q:Q (.bl (decide ((s,t)∈tps))) H):qdC K false (.ref a) (.ref l) H Q:=by
 show .inr (.inr ⟨l,ts.map V.ref,fun z=>decide (qdk H z=some (s,t)),1,rfl,SqL.of h.1,by decide,fun z hz=>?_,?_⟩)
 .obtain⟨b,hb,rfl⟩:=YH.mp hz;obtain⟨ab,_,r⟩:=h.2.mem hb;have e:=pair_eqD (K:=K) r d
  have c:decide (qdk H (.ref b)=some (s,t))=decide ((ab.1,ab.2)=(s,t)):=by
   rw[qbO r];apply YZ.mpr;rw[Option.some.injEq]
  show EqD K H 1 (.ref b) (.ref a) (decide (qdk H (.ref b)=some (s,t)));rw[c];show e
 .rw [any_in h.2];show q
theorem qbg{y:V}(a:(ss.map V.str)[i]?=some y):∃ s,ss[i]?=some s/\y=.str s:=by
 rw[yd] at a
 cases h:ss[i]? with
 | none=>rw[h] at a;cases a
 | some s=>rw[h] at a;cases a;show⟨s,rfl,rfl⟩
def Adj(ss:LS)(ns:LN)(tps:LP):Prop:=∀ a b s t,ss[a]?=some s->ss[b]?=some t->((ns.getD a 0).testBit b=true↔((s,t)∈tps\/(t,s)∈tps))
theorem KZ:FnScope ["web","thing","paired","tie"] ["web","thing"] (qh zI):=fS
theorem uE:FnScope ["self","thing"] ["self","thing"] (qh j7):=fS
noncomputable def qbP(a:LS):List (Key×V):=a.map fun s=>(.inr s,.bl true)
theorem zQ(y:Str):∀ a:LS,(jR (qbP a) (.inr y:Key)).isSome=decide (y∈a)
 | []=>rfl
 | s::r=>by
  by_cases e:s=y
  .subst e;show(jR (((.inr s:Key),V.bl true)::qbP r) _).isSome=_;rw[yD (by simp)];simp[jR]
  .show(jR (((.inr s:Key),V.bl true)::qbP r) _).isSome=_;rw[q9 (p:=((.inr s:Key),V.bl true)) (fun z=>e (xj z)),zQ y r];apply YZ.mpr;simp[Yd e]
theorem qbQ{a:LS}(h:y∉a):jW (qbP a) (.inr y:Key) (.bl true)=qbP (a++[y]):=by
 have:jR (qbP a) (.inr y:Key)=none:=by
  have:=zQ y a;rw[yl h] at this;show Option.isNone_iff_eq_none.mp (by rw[<- Option.not_isSome,this];rfl)
 rw[qaW _ this];unfold qbP;rw[yC];rfl
noncomputable def qv(qs:LP):LS:=qs.flatMap fun q=>[q.1,q.2]
noncomputable def prK(qs:LP):List (Key×V):=qs.flatMap fun q=>[(.inr q.1,.str q.2),(.inr q.2,.str q.1)]
noncomputable def pt:LP->Str->Option Str
 | [],_=>none
 | q::r,s=>if q.1=s then some q.2 else if q.2=s then some q.1 else pt r s
theorem jU(s:Str):∀ qs,jR (prK qs) (.inr s:Key)=(pt qs s).map V.str
 | []=>rfl
 | q::r=>by
  show jR (((.inr q.1:Key),V.str q.2)::((.inr q.2:Key),V.str q.1)::prK r) _=(pt (q::r) s).map V.str;unfold pt;by_cases h1:q.1=s
  .rw [jp (p:=((.inr q.1:Key),V.str q.2)) (congrArg Sum.inr h1),yG h1];rfl
  .rw [q9 (p:=((.inr q.1:Key),V.str q.2)) (fun z=>h1 (xj z)),yE h1];by_cases a:q.2=s
   .rw [jp (p:=((.inr q.2:Key),V.str q.1)) (congrArg Sum.inr a),yG a];rfl
   .rw [q9 (p:=((.inr q.2:Key),V.str q.1)) (fun z=>a (xj z)),yE a,jU s r]
theorem pt_none:∀{qs:LP},pt qs s=none↔s∉qv qs
 | []=>by simp[pt,qv]
 | q::r=>by
  have e:qv (q::r)=q.1::q.2::qv r:=rfl;rw[e];unfold pt;by_cases h1:q.1=s
  .rw [yG h1];simp[h1]
  .rw [yE h1];by_cases a:q.2=s
   .rw [yG a];simp[a]
   .rw [yE a,pt_none];simp only[yz,Ka];show⟨fun z=>⟨Yd h1,Yd a,z⟩,fun z=>z.2.2⟩
structure PGo(ss:LS)(tps qs:LP):Prop where
 inn:∀ q∈qs,(q∈tps\/(q.2,q.1)∈tps)/\q.1∈ss/\q.2∈ss/\q.1≠q.2
 nd:(qv qs).Nodup
 few:qs.length<=30
theorem qap(qs:LP):(qv qs).length=2*qs.length:=by
 induction qs with
 | nil=>rfl
 | cons q r ih=>show(q.1::q.2::qv r).length=_;simp only[yy];lk
theorem zR(qs:LP)(q:Str×Str):qv (qs++[q])=qv qs++[q.1,q.2]:=by
 unfold qv;rw[XC];rfl
theorem PGo.new(g:PGo ss tps qs)(h:qs[i]?=some ab):qs.take (i+1)=qs.take i++[ab]/\(qv (qs.take i++[ab])).Nodup/\ab.1∉qv (qs.take i)/\ab.2∉qv (qs.take i):=by
 have b:qs.take (i+1)=qs.take i++[ab]:=by rw[yH,h];rfl
 have a:(qv (qs.take i++[ab])).Nodup:=by
  rw[<- b];have:qv qs=qv (qs.take (i+1))++qv (qs.drop (i+1)):=by unfold qv;rw[<- XC,List.take_append_drop]
  have e:=g.nd;rw[this] at e;show(yX.mp e).1
 have c:=a;rw[zR] at c;have d:=(yX.mp c).2.2;show⟨b,a,fun z=>d _ z ab.1 (by simp) rfl,fun z=>d _ z ab.2 (by simp) rfl⟩
inductive spHt(cw:Addr)(vs:List V)(H:Hp)(Q:VK)(E:XK):Prop|mk (x t:Addr) (ss:LS) (ns:LN) (tps:LP) (ab:Str×Str) (_:vs=[.ref x,.ref t]) (_:WebAt cw H x ss ns) (_:Adj ss ns tps) (_:H t=some (.tup [.str ab.1,.str ab.2])) (_:(ab∈tps\/(ab.2,ab.1)∈tps)) (_:ab.1∈ss) (_:ab.2∈ss) (_:ab.1≠ab.2) (_:∀ H',L2.Same H H'->Q (.bl true) H')
inductive spAp(cw:Addr)(vs:List V)(H:Hp)(Q:VK)(E:XK):Prop|mk (x l:Addr) (ss:LS) (ns:LN) (us:LQ) (tps qs:LP) (_:vs=[.ref x,.ref l]) (_:WebAt cw H x ss ns) (_:Adj ss ns tps) (_:PL H l us qs) (_:PGo ss tps qs) (_:∀ H',L2.Same H H'->Q (.bl true) H')
theorem ok_ht(F:Fun K "has_tie" "Web.has_tie" j7 f fd)(T:Txt K mg cc cw)(y:DefOk P w K mg base CX0 3 "are_two_places" ["numbers","thing"] spTwo)(D:MethOk P w K mg base CX0 6 cw "tied" ["self","one","other"] (spTied cw)):FnOk P w K mg base CX0 7 f fd ["self","thing"] (spHt cw):=by
 show F.ok uE fun _ _ _ _ H vs Q E g h=>?_
 .obtain⟨x,t,ss,ns,tps,ab,rfl,r,z,n,c,m1,l,e,q⟩:=h;have s:=ze g;obtain⟨u,m,ol,G,hb,d,B,A,hw⟩:=id r;show⟨_,(qe (qo (qbo (qp y (hmR g) qz (qa (qB (K:=K) rfl (pv 0) rfl) (qa (pv 1) qd))) (qa4 (qF D (hmR g) (pv 0) (qa (qt (qu (K:=K) rfl s) (pv 1) qg (fun _ _=>rfl)) (qa (qt (qu (K:=K) rfl s) (pv 1) qg (fun _ _=>rfl)) qd))))))),?_⟩;apply .inl ⟨x,cw,u,_,.ref m,rfl,hb,T.wcl,T.wn,zf,?_⟩;apply⟨m,t,ss,ab.1,ab.2,rfl,d,n,hw.nm _ m1,hw.nm _ l,m1,l,e,fun H1 b=>?_⟩;show⟨true,rfl,zA ?_⟩;have a:=b _ _ n;apply⟨x,u,_,rfl,b _ _ hb,j5 (by room),?_⟩;apply .inl (qaX a (v:=.str ab.1) (qx (j:=0) rfl) ?_);apply .inl (qaX a (v:=.str ab.2) (qx (j:=1) rfl) ?_);ext;obtain⟨j,p⟩:=yf m1;obtain⟨i,o⟩:=yf l;show⟨x,ss,ns,ab.1,ab.2,j,i,rfl,r.same b,p,o,fun H2 C=>?_⟩;rw[(z j i ab.1 ab.2 p o).mpr c];show q H2 (b.trans C)
theorem ok_ap(F:Fun K "are_pairs" "are_pairs" zI f fd)(T:Txt K mg cc cw)(KU:MethOk P w K mg base CX0 7 cw "has_tie" ["self","thing"] (spHt cw)):FnOk P w K mg base CX0 8 f fd ["web","thing"] (spAp cw):=by
 show F.ok KZ fun _ _ _ _ H vs Q E X h=>?_
 .obtain⟨x,l,ss,ns,us,tps,qs,rfl,W,hA,⟨hl,r⟩,g,q⟩:=h;have e:=ze X;obtain⟨wx,dd,ol,nn,hb,_⟩:=id W;have few:=g.few;have N:=r.len;show⟨_,(qc (qM (jm (qX (qr (qaA (K:=K) rfl) rfl T.b_isinstance YR (qa (pv 1) (qa (j3 (v:=.ty "list") rfl T.b_list Xz rfl) qd))))) (qe (qo zi)) qq)
 (qc (qm (i:=2) KZ.nd rfl (yP rfl) jX)
 (qc (jo yZ rfl (qL (K:=K) rfl (pv 1)) (qk (i:=3) KZ.nd rfl (yP rfl))
 (qc (qM (PW.pt (qar (jm (qX (qF KU (hmR X) (pv 0) (qa (pv 3) qd)))) (qar (qj (zt (K:=K) rfl e) (qt (qu (K:=K) rfl e) (pv 3) qg (fun _ _=>rfl)) (pv 2) (by with_unfolding_all rfl)) (qaj (qj (zt (K:=K) rfl e) (qt (qu (K:=K) rfl e) (pv 3) qg (fun _ _=>rfl)) (pv 2) (by with_unfolding_all rfl)))))) (qe (qo zi)) qq)
 (qc (jw zi (jI (pv 2) (qt (qu (K:=K) rfl e) (pv 3) qg (fun _ _=>rfl)) (jJ e)))
 (qe (jw zi (jI (pv 2) (qt (qu (K:=K) rfl e) (pv 3) qg (fun _ _=>rfl)) (jJ e)))))))
 (qe (qo zi))))),?_⟩
  apply qbL (.inl (.lst hl)) rfl (qao K "list" (by simp) "list" (by simp)) ?_;apply yq ?_;ext;intro d C;have O:=qC (Sr H) (o:=.dK []) C;have U:upd H d (.dK []) d=some (.dK (qbP [])):=qb;generalize upd H d (.dK [])=H1 at O U;apply .inl ⟨⟨_,.of (O _ _ hl)⟩,qN (xs:=us.map V.ref) (fun i G J=>L2.Same H J/\∃ R,G=[some (.ref x),some (.ref l),some (.ref d),R]/\J d=some (.dK (qbP (qv (qs.take i))))) ⟨O,_,rfl,U⟩ (fun i G J _ u=>.of (u.1 _ _ hl)) (fun i y G J Y u=>?_) fun G J u=>?_⟩
  .obtain⟨n,R,rfl,c⟩:=u;rw[yd] at Y;obtain⟨b,s,rfl⟩:=yn.mp Y;have hi:i<us.length:=(yc.mp s).1;obtain⟨ab,m⟩:∃ ab,qs[i]?=some ab:=⟨_,yb (by rw[<- N];show hi)⟩;have B:=r.at_ i b ab s m;obtain⟨ht,m1,m2,t⟩:=g.inn ab (ye m);obtain⟨M,aa,Z,n2⟩:=g.new m;have ac:(qv (qs.take i)).length<=60:=by rw[qap,yK];lk
   have L:b≠d:=fun z=>by rw[z,C] at B;cases B
   apply⟨x,wx,_,rfl,n _ _ hb,j5 (by room),?_⟩;apply⟨x,b,ss,ns,tps,ab,rfl,W.same n,hA,n _ _ B,ht,m1,m2,t,fun I D=>?_⟩;have A:=n.trans D;have a:=A _ _ B;apply yq ?_;apply .inl (qaX a (v:=.str ab.1) (qx (j:=0) rfl) ?_);apply .inr (.inl ⟨d,_,rfl,DGet.k (k:=Sum.inr ab.1) (D _ _ c),?_⟩);rw[yE (by decide),zQ,yl Z];apply yq ?_;apply .inl (qaX a (v:=.str ab.2) (qx (j:=1) rfl) ?_);apply .inr (.inl ⟨d,_,rfl,DGet.k (k:=Sum.inr ab.2) (D _ _ c),?_⟩);rw[yE (by decide),zQ,yl n2];apply yq ?_;apply .inl (qaX a (v:=.str ab.1) (qx (j:=0) rfl) ?_);apply .inr ⟨d,_,rfl,DPut.k (k:=Sum.inr ab.1) (D _ _ c) (by unfold qbP;rw[ya,YA];lk),?_⟩;rw[qbQ Z];have s3:=qaO A (o:=.dK (qbP (qv (qs.take i)++[ab.1]))) C;have S:upd I d (.dK (qbP (qv (qs.take i)++[ab.1]))) d=some (.dK (qbP (qv (qs.take i)++[ab.1]))):=qb;have p:upd I d (.dK (qbP (qv (qs.take i)++[ab.1]))) b=some (.tup [.str ab.1,.str ab.2]):=by rw[qf L];show a
   generalize upd I d (.dK (qbP (qv (qs.take i)++[ab.1])))=J3 at s3 S p;apply .inl (qaX p (v:=.str ab.2) (qx (j:=1) rfl) ?_);apply .inr ⟨d,_,rfl,DPut.k (k:=Sum.inr ab.2) S (by unfold qbP;rw[ya,yt,YA];simp only[yy,Ym];lk),?_⟩;rw[qbQ (fun z=>by rcases yx.mp z with z | z;show n2 z;show t (yv.mp z).symm)];show⟨qaO s3 C,_,rfl,by rw[qb,M,zR,yW];rfl⟩
  .obtain⟨n,R,rfl,c⟩:=u;apply q J n
theorem KM:FnScope ["web","pairs","partners","pair"] ["web","pairs"] (qh j8):=fS
theorem prK_len(qs:LP):(prK qs).length=2*qs.length:=by
 induction qs with
 | nil=>rfl
 | cons q r ih=>show(_::_::prK r).length=_;simp only[yy];rw[ih];lk
theorem prK_snoc(qs:LP)(q:Str×Str):prK (qs++[q])=prK qs++[(.inr q.1,.str q.2),(.inr q.2,.str q.1)]:=by
 unfold prK;rw[XC];rfl
theorem prK_put{q:Str×Str}(h:(qv (qs++[q])).Nodup):jW (jW (prK qs) (.inr q.1:Key) (.str q.2)) (.inr q.2:Key) (.str q.1)=prK (qs++[q]):=by
 rw[zR] at h;obtain⟨h1,b,c⟩:=yX.mp h;have e:q.1∉qv qs:=fun z=>c _ z _ (by simp) rfl;have f:q.2∉qv qs:=fun z=>c _ z q.2 (by simp) rfl;have g:q.1≠q.2:=by simp at b;show b
 have i:jR (prK qs) (.inr q.1:Key)=none:=by rw[jU,pt_none.mpr e];rfl
 rw[qaW _ i]
 have a:jR (prK qs++[((.inr q.1:Key),V.str q.2)]) (.inr q.2:Key)=none:=by
  have a:jR (prK qs) (.inr q.2:Key)=none:=by rw[jU,pt_none.mpr f];rfl
  unfold jR at a ⊢;rw[List.find?_append];have:(prK qs).find? (fun d=>decide (d.1=(.inr q.2:Key)))=none:=by simpa using a
  rw[this];simp[g]
 rw[qaW _ a,prK_snoc];simp
inductive spPn(cw:Addr)(vs:List V)(H:Hp)(Q:VK)(E:XK):Prop|mk (x l:Addr) (ss:LS) (ns:LN) (us:LQ) (tps qs:LP) (_:vs=[.ref x,.ref l]) (_:WebAt cw H x ss ns) (_:Adj ss ns tps) (_:PL H l us qs) (_:PGo ss tps qs) (_:∀(d:Addr) (H':Hp),L2.Same H H'->H d=none->H' d=some (.dK (prK qs))->Q (.ref d) H')
theorem ok_pn(F:Fun K "partners_in" "partners_in" j8 f fd)(T:Txt K mg cc cw)(uT:DefOk P w K mg base CX0 8 "are_pairs" ["web","thing"] (spAp cw)):FnOk P w K mg base CX0 9 f fd ["web","pairs"] (spPn cw):=by
 show F.ok KM fun _ _ _ _ H vs Q E S h=>?_
 .obtain⟨x,l,ss,ns,us,tps,qs,rfl,Z,Y,⟨hl,n⟩,g,q⟩:=h;have p:=ze S;have few:=g.few;have u:=n.len;show⟨_,(qc (qM (jm (qX (qp uT (hmR S) qz (qa (pv 0) (qa (pv 1) qd))))) (qe jK) qq)
 (qc (qm (i:=2) KM.nd rfl (yP rfl) jX)
 (qc (jo yZ rfl (qL (K:=K) rfl (pv 1)) (qk (i:=3) KM.nd rfl (yP rfl))
 (qc (jw (qt (qu (K:=K) rfl p) (pv 3) qg (fun _ _=>rfl)) (jI (pv 2) (qt (qu (K:=K) rfl p) (pv 3) qg (fun _ _=>rfl)) (jJ p)))
 (qe (jw (qt (qu (K:=K) rfl p) (pv 3) qg (fun _ _=>rfl)) (jI (pv 2) (qt (qu (K:=K) rfl p) (pv 3) qg (fun _ _=>rfl)) (jJ p))))))
 (qe (qo (pv 2)))))),?_⟩
  apply⟨x,l,ss,ns,us,tps,qs,rfl,Z,Y,⟨hl,n⟩,g,fun H1 W=>?_⟩;apply yq ?_;ext;intro d R;have c:=W.free R;have L:=qC W (o:=.dK []) R;have O:upd H1 d (.dK []) d=some (.dK (prK [])):=qb;generalize upd H1 d (.dK [])=H2 at L O;apply .inl ⟨⟨_,.of (L _ _ hl)⟩,qN (xs:=us.map V.ref) (fun i B J=>L2.Same H J/\∃ M,B=[some (.ref x),some (.ref l),some (.ref d),M]/\J d=some (.dK (prK (qs.take i)))) ⟨L,_,rfl,O⟩ (fun i B J _ t=>.of (t.1 _ _ hl)) (fun i y B J U t=>?_) fun B J t=>?_⟩
  .obtain⟨A,M,rfl,a⟩:=t;rw[yd] at U;obtain⟨b,s,rfl⟩:=yn.mp U;have hi:i<us.length:=(yc.mp s).1;obtain⟨ab,r⟩:∃ ab,qs[i]?=some ab:=⟨_,yb (by rw[<- u];show hi)⟩;have C:=n.at_ i b ab s r;obtain⟨I,G,n1,n2⟩:=g.new r;have D:b≠d:=fun z=>by rw[z,c] at C;cases C
   have m:=A _ _ C;have aa:(prK (qs.take i)).length<=2000:=by rw[prK_len,yK];lk
   apply .inl (qaX m (v:=.str ab.2) (qx (j:=1) rfl) ?_);apply .inl (qaX m (v:=.str ab.1) (qx (j:=0) rfl) ?_);apply .inr ⟨d,_,rfl,DPut.k (k:=Sum.inr ab.1) a (by rw[YA];lk),?_⟩;have X:=qaO A (o:=.dK (jW (prK (qs.take i)) (Sum.inr ab.1) (.str ab.2))) c;have N:upd J d (.dK (jW (prK (qs.take i)) (Sum.inr ab.1) (.str ab.2))) d=some (.dK (jW (prK (qs.take i)) (Sum.inr ab.1) (.str ab.2))):=qb;have e:upd J d (.dK (jW (prK (qs.take i)) (Sum.inr ab.1) (.str ab.2))) b=some (.tup [.str ab.1,.str ab.2]):=by rw[qf D];show m
   generalize upd J d (.dK (jW (prK (qs.take i)) (Sum.inr ab.1) (.str ab.2)))=J3 at X N e;apply .inl (qaX e (v:=.str ab.1) (qx (j:=0) rfl) ?_);apply .inl (qaX e (v:=.str ab.2) (qx (j:=1) rfl) ?_);apply .inr ⟨d,_,rfl,DPut.k (k:=Sum.inr ab.2) N ?_,?_⟩
   .have:=jh (prK (qs.take i)) (Sum.inr ab.1:Key) (.str ab.2);rw[YA];lk
   .show⟨qaO X c,_,rfl,by rw[qb,prK_put G,I]⟩
  .obtain⟨A,M,rfl,a⟩:=t;rw[ya,u,yO] at a;apply q d J A c a
structure Gr(A:Str->Str->Prop)(f:Str->Option Str):Prop where
 as:∀{a b},A a b->A b a
 ir:∀{a b},A a b->a≠b
 fs:∀{a b},f a=some b->f b=some a
 fa:∀{a b},f a=some b->A a b
structure FS where
 rows:Str->Option (LS)
 par:Str->Option Str
 bas:Str->Str
def Turns(A:Str->Str->Prop)(f:Str->Option Str)(r:LS):Prop:=∀(j:Nat) a b,r[j]?=some a->r[j+1]?=some b->A a b/\(f a=some b↔j % 2=1)
structure Alt(A:Str->Str->Prop)(f:Str->Option Str)(r:LS)(v:Str):Prop where
 nd:r.Nodup
 odd:r.length % 2=1
 hd:∀ s,r[0]?=some s->f s=none
 tl:∃ r0,r=r0++[v]
 st:Turns A f r
structure FI(A:Str->Str->Prop)(f:Str->Option Str)(S:FS):Prop where
 alt:∀ v r,S.rows v=some r->Alt A f r v
 bse:∀ v r,S.rows v=some r->∃ rb t,S.rows (S.bas v)=some rb/\r=rb++t/\∀ u∈t,S.bas u=S.bas v
 idm:∀ v r,S.rows v=some r->S.bas (S.bas v)=S.bas v
 dwn:∀ b r q,S.rows b=some r->S.bas b=b->f b=some q->S.rows q=none/\∃ z rz,S.par q=some z/\S.rows z=some rz/\r=rz++[q,b]
 mat:∀ v,S.bas v≠v->(∃ r,S.rows v=some r)/\∃ u,f v=some u/\S.bas u=S.bas v
 odd:∀ x z,S.par x=some z->A z x/\(∃ r,S.rows z=some r)/\∃ y r,f x=some y/\S.rows y=some r
section
variable{A:Str->Str->Prop}{f:Str->Option Str}{S:FS}
theorem FI.own(I:FI A f S)(h:S.rows v=none):S.bas v=v:=YT fun z=>by
 obtain⟨⟨r,e⟩,_⟩:=I.mat v z;rw[h] at e;cases e
theorem FI.evb(I:FI A f S)(h:S.rows v=some r):∃ a,S.rows (S.bas v)=some a:=(I.bse v r h).elim fun a z=>⟨a,z.elim fun _ y=>y.1⟩
theorem FI.pair(I:FI A f S){w:Str}{s:LS}(hv:S.rows v=some r)(hw:S.rows w=some s)(h:f v=some w):S.bas v=S.bas w:=by
 by_cases z:S.bas v=v
 .have:=(I.dwn v r w hv z h).1;rw[hw] at this;cases this
 .obtain⟨_,u,a,e⟩:=I.mat v z;rw[h] at a;cases a;show e.symm
inductive Ch(f:Str->Option Str)(S:FS):Str->LS->Prop
 | root {b:Str}:f b=none->Ch f S b [b]
 | step {b q z:Str} {l:LS}:f b=some q->S.par q=some z->Ch f S (S.bas z) l->Ch f S b (b::l)
theorem Ch.one(h:Ch f S b l):∀{m},Ch f S b m->m=l:=by
 induction h with
 | root e=>intro m g;cases g with
  | root _=>rfl
  | step e' _ _=>rw[e] at e';cases e'
 | step e p _ ih=>intro m g;cases g with
  | root e'=>rw[e] at e';cases e'
  | step e' p' g'=>rw[e] at e';cases e';rw[p] at p';cases p';rw[ih g']
theorem Ch.ne(h:Ch f S b l):∃ t,l=b::t:=by cases h<;>show⟨_,rfl⟩
theorem FI.chain(I:FI A f S):∀(n:Nat) {b:Str} {r:LS},r.length<=n->S.rows b=some r->S.bas b=b->∃ l,Ch f S b l
 | n,b,r,hn,hb,hbb=>by
  cases e:f b with
  | none=>show⟨_,.root e⟩
  | some q =>
   obtain⟨_,z,rz,p,hz,c⟩:=I.dwn b r q hb hbb e;obtain⟨a,t,h1,d,_⟩:=I.bse z rz hz;have hl:a.length<n:=by rw[c,d] at hn;simp at hn;lk
   match n,hl with
   | n+1,hl =>
    obtain⟨l,g⟩:=I.chain n (b:=S.bas z) (r:=a) (by lk) h1 (I.idm z rz hz);show⟨_,.step e p g⟩
theorem FI.chainOf(I:FI A f S)(h:S.rows v=some r):∃ l,Ch f S (S.bas v) l:=by
 obtain⟨a,e⟩:=I.evb h;show I.chain _ (yh _) e (I.idm v r h)
def Cov(f:Str->Option Str)(S:FS)(l:LS)(u:Str):Prop:=∃ d∈l,S.bas u=d\/f d=some u
theorem Cov.mono{m:LS}(h:Cov f S l u)(a:∀ d∈l,d∈m):Cov f S m u:=h.elim fun d z=>⟨d,a d z.1,z.2⟩
theorem Ch.up(I:FI A f S)(h:Ch f S b l):∀{v:Str} {r:LS},S.rows v=some r->S.bas v=b->∀{l1 l2:LS} {c:Str},l=l1++c::l2->∃ o t,S.rows c=some o/\S.bas c=c/\Ch f S c (c::l2)/\r=o++t/\∀ u∈t,S.bas u=c\/Cov f S l1 u:=by
 induction h with
 | root e =>
  intro v r hv hb l1 l2 c j
  cases l1 with
  | cons x y=>show absurd (congrArg List.length j) (by simp)
  | nil =>
   cases j;obtain⟨n,t,h1,m,i⟩:=I.bse v r hv;rw[hb] at h1 i;show⟨n,t,h1,by rw[<- hb];show I.idm v r hv,.root e,m,fun u hu=>.inl (i u hu)⟩
 | @step b q z l e p g ih =>
  intro v r hv hb l1 l2 c j;obtain⟨n,t,h1,m,i⟩:=I.bse v r hv;rw[hb] at h1 i;have a:S.bas b=b:=by rw[<- hb];show I.idm v r hv
  cases l1 with
  | nil =>
   cases j;show⟨n,t,h1,a,.step e p g,m,fun u hu=>.inl (i u hu)⟩
  | cons x y =>
   cases j;obtain⟨H,J,rz,s,hz,w⟩:=I.dwn b n q h1 a e;rw[p] at s;cases s;obtain⟨o,t',C,D,E,F,G⟩:=ih hz rfl rfl;show⟨o,t'++[q,b]++t,C,D,E,by rw[m,w,F];simp,fun u hu=>?_⟩;rcases yx.mp hu with hu | hu
   .rcases yx.mp hu with hu | hu
    .show(G u hu).imp id fun z=>z.mono fun d B=>yN _ B
    .simp only[yz,yM,Yt] at hu;rcases hu with rfl | rfl
     .show .inr ⟨b,yY,.inr e⟩
     .show .inr ⟨_,yY,.inl a⟩
   .show .inr ⟨b,yY,.inl (i u hu)⟩
theorem Ch.bs0(I:FI A f S)(hv:S.rows v=some r)(h:Ch f S (S.bas v) l){c:Str}(hc:c∈l):∃ a,S.rows c=some a/\S.bas c=c:=by
 obtain⟨l1,l2,e⟩:=Yr hc;obtain⟨a,_,h1,b,_⟩:=h.up I hv rfl e;show⟨a,h1,b⟩
theorem Ch.cov(G:Gr A f)(I:FI A f S)(hv:S.rows v=some r)(h:Ch f S (S.bas v) l)(hu:u∈r):Cov f S l u:=by
 have hl:l≠[]:=by obtain⟨t,e⟩:=h.ne;rw[e];show kP _ _
 obtain⟨o,t,h1,s,w,x,y⟩:=h.up I hv rfl (xv hl).symm;have b:l.getLast hl∈l:=List.getLast_mem hl;rw[x] at hu;rcases yx.mp hu with hu | hu
 .have C:f (l.getLast hl)=none:=by
   cases w with
   | root e=>show e
   | step _ _ g=>obtain⟨_,e⟩:=g.ne;cases e
  have c:=I.alt _ _ h1;obtain⟨q,i⟩:=c.tl
  have m:q=[]:=by
   cases j:q.length with
   | zero=>show List.eq_nil_of_length_eq_zero j
   | succ n =>
    exfalso;have p:o.length=n+2:=by rw[i];simp[j]
    obtain⟨a,B⟩:∃ a,o[n]?=some a:=⟨_,yb (by lk)⟩;have hb:o[n+1]?=some (l.getLast hl):=by rw[i,yB (by lk),j];simp
    have:=G.fs ((c.st n a _ B hb).2.mpr (by have:=c.odd;lk));rw[C] at this;cases this
  rw[i,m] at hu;have e:u=l.getLast hl:=by simpa using hu
  show⟨_,b,.inl (by rw[e];show s)⟩
 .rcases y u hu with z | ⟨d,hd,z⟩
  .show⟨_,b,.inl z⟩
  .show⟨d,List.dropLast_subset l hd,z⟩
theorem Cov.apart(G:Gr A f)(I:FI A f S){m:LS}(hl:∀ d∈l,∃ r,S.rows d=some r/\S.bas d=d)(j:∀ d∈m,∃ r,S.rows d=some r/\S.bas d=d)(q:∀ d∈l,d∉m)(h1:Cov f S l u)(o:Cov f S m u):False:=by
 have key:∀{d e:Str},(∃ r,S.rows d=some r/\S.bas d=d)->(∃ r,S.rows e=some r/\S.bas e=e)->S.bas u=d->f e=some u->False:=fun⟨r,b,p⟩ ⟨s,g,i⟩ h h'=>by
  have n:=(I.dwn _ _ _ g i h').1;have:=I.own n;rw[h] at this;rw[this,n] at b;cases b
 obtain⟨d,b,z⟩:=h1;obtain⟨e,g,y⟩:=o;have c:d≠e:=fun w=>q d b (by rw[w];show g);rcases z with z | z<;>rcases y with y | y
 .show c (z.symm.trans y)
 .show key (hl d b) (j e g) z y
 .show key (j e g) (hl d b) y z
 .have a:=G.fs z;rw[G.fs y] at a;show c (ym a).symm
theorem Turns.app{s:LS}(h:Turns A f r)(g:∀(j:Nat) a b,s[j]?=some a->s[j+1]?=some b->A a b/\(f a=some b↔(r.length+j) % 2=1))(w:∀ a b,r[r.length-1]?=some a->s[0]?=some b->0<r.length->A a b/\(f a=some b↔(r.length-1) % 2=1)):Turns A f (r++s):=fun j a b c hb=>by
 by_cases h1:j+1<r.length
 .rw [yF (by lk)] at c;rw[yF h1] at hb;show h j a b c hb
 .by_cases d:j+1=r.length
  .rw [yF (by lk),show j=r.length-1 by lk] at c;rw[yB (by lk),show j+1-r.length=0 by lk] at hb;rw[show j=r.length-1 by lk];show w a b c hb (by lk)
  .rw [yB (by lk)] at c;rw[yB (by lk),show j+1-r.length=j-r.length+1 by lk] at hb;have:=g _ a b c hb
   rwa[show r.length+(j-r.length)=j by lk] at this
theorem Alt.back(G:Gr A f){s t:LS}{w c:Str}(hw:Alt A f s w)(hv:Alt A f r v)(i:r=rz++q::c::t)(hz:rz.length % 2=1)(E:A w v)(F:f w≠some v)(p:∀ u∈s,u∉q::c::t):Alt A f (s++(q::c::t).reverse) q:=by
 obtain⟨K,es⟩:=hw.tl;obtain⟨J,l⟩:=hv.tl;have o:0<s.length:=by rw[es];simp
 have H:=hv.odd;have n:r.length=rz.length+(t.length+2):=by rw[i];simp
 have at_:∀{j:Nat} {a:Str},(q::c::t).reverse[j]?=some a->j<t.length+2/\r[r.length-1-j]?=some a:=fun{j a} h=>by
  have hl:=(yc.mp h).1;rw[Yl] at hl;simp only[yy] at hl;rw[xM (by simp only[yy];lk)] at h;simp only[yy] at h;show⟨by lk,?_⟩;rw[n]
  conv=>lhs;rw[i]
  rw[yB (by lk),show rz.length+(t.length+2)-1-j-rz.length=t.length+1+1-1-j by lk];show h
 show⟨yX.mpr ⟨hw.nd,?_,fun x I y g e=>p x I (by rw[e];show XA.mp g)⟩,?_,fun y g=>?_,⟨s++(c::t).reverse,by simp⟩,hw.st.app (fun j a b h1 m=>?_) fun a b h1 m _=>?_⟩
 .show(kC _).nodup_iff.mpr ((yX.mp (i ▸ hv.nd)).2.1)
 .rw [yt,Yl];simp only[yy];have:=hw.odd;lk
 .rw [yF o] at g;show hw.hd y g
 .obtain⟨l1,B⟩:=at_ h1;obtain⟨l2,d⟩:=at_ m;have:=hv.st (r.length-1-(j+1)) b a d (by rw[show r.length-1-(j+1)+1=r.length-1-j by lk];show B);show⟨G.as this.1,⟨fun z=>?_,fun z=>?_⟩⟩
  .have:=this.2.mp (G.fs z);have:=hw.odd;lk
  .show G.fs (this.2.mpr (by have:=hw.odd;lk))
 .have C:a=w:=by
   rw[es,yt,yB (by simp)] at h1;simpa using h1.symm
  have D:b=v:=by
   obtain⟨_,d⟩:=at_ m;rw[Ke,l,yt,yB (by simp)] at d;simpa using d.symm
  subst C;subst D;show⟨E,⟨fun z=>absurd z F,fun z=>by have:=hw.odd;lk⟩⟩
end
section
variable{A:Str->Str->Prop}{f:Str->Option Str}{S S':FS}
theorem Ch.nd(I:FI A f S)(h:Ch f S b l):∀{v:Str} {r:LS},S.rows v=some r->S.bas v=b->l.Nodup:=by
 induction h with
 | root e=>intro _ _ _ _;simp
 | @step b q z l e p g ih =>
  intro v r hv hb;have a:S.bas b=b:=by rw[<- hb];show I.idm v r hv
  obtain⟨m,h1⟩:=I.evb hv;rw[hb] at h1;obtain⟨_,n,rz,d,hz,_⟩:=I.dwn b m q h1 a e;rw[p] at d;cases d;show yo.mpr ⟨fun i=>?_,ih hz rfl⟩;obtain⟨x,y,c⟩:=Yr i;obtain⟨_,_,_,_,j,_⟩:=g.up I hz rfl c;have:=j.one (.step e p g);rw[c] at this;have:=congrArg List.length this;simp at this;lk
theorem Ch.suf(I:FI A f S)(hv:S.rows v=some r)(h:Ch f S (S.bas v) l){c:Str}(e:l=l1++c::l2)(b:f c=some q):∃ rz t,r=rz++q::c::t/\rz.length % 2=1/\S.rows q=none/\∀ u∈q::c::t,Cov f S (l1++[c]) u:=by
 obtain⟨p,t,h1,a,_,g,i⟩:=h.up I hv rfl e;obtain⟨m,z,rz,_,n,o⟩:=I.dwn c p q h1 a b;show⟨rz,t,by rw[g,o];simp,(I.alt z rz n).odd,m,fun u hu=>?_⟩;rcases yz.mp hu with rfl | hu
 .show⟨c,by simp,.inr b⟩
 .rcases yz.mp hu with rfl | hu
  .show⟨u,by simp,.inl a⟩
  .rcases i u hu with z | z
   .show⟨c,by simp,.inl z⟩
   .show z.mono fun d j=>yS _ j
theorem Ch.meet(I:FI A f S){w:Str}{s:LS}(hv:S.rows v=some r)(hw:S.rows w=some s)(h:Ch f S (S.bas v) l)(h':Ch f S (S.bas w) l'){m1 j:LS}{m:Str}(n:l=l1++m::l2)(i:l'=m1++m::j)(J:∀ d∈l1,d∉l'):j=l2/\∀ d∈m1,d∉l:=by
 obtain⟨_,_,_,_,k,_⟩:=h.up I hv rfl n;obtain⟨_,_,_,_,k',_⟩:=h'.up I hw rfl i;have E:j=l2:=(xD (k.one k')).2;show⟨E,fun d K hl=>?_⟩;obtain⟨a,b,C⟩:=Yr K;obtain⟨x,y,ex⟩:=Yr hl;obtain⟨_,_,_,_,g,_⟩:=h.up I hv rfl ex;obtain⟨_,_,_,_,g',_⟩:=h'.up I hw rfl (l1:=a) (c:=d) (l2:=b++m::j) (by rw[i,C];simp);have u:y=b++m::j:=(xD (g'.one g)).2;have e:=h.nd I hv rfl;have o:d∈l':=by rw[i,C];simp
 have q:d∉l1:=fun z=>J d z o;have p:d∈m::l2:=by rw[n] at hl;show(yx.mp hl).resolve_left q
 rcases yz.mp p with z | z
 .rw [z] at ex;rw[ex,u] at e;have:=(yX.mp e).2.1;show(yo.mp this).1 (by simp)
 .have t:m∈x:=by
   obtain⟨L,D,F⟩:=Yr z;have B:l=(l1++m::L)++d::D:=by rw[n,F];simp
   obtain⟨_,_,_,_,H,_⟩:=h.up I hv rfl B;have G:D=y:=(xD (g.one H)).2;rw[B,G] at ex;rw[<- List.append_cancel_right ex];simp
  rw[ex,u] at e;show(yX.mp e).2.2 m t m (by simp) rfl
def NewRow(S:FS)(v w u:Str)(r:LS):Prop:=∃ rv rw rz t,S.rows v=some rv/\S.rows w=some rw/\rv=rz++u::t/\r=rw++(u::t).reverse
def InR(f:Str->Option Str)(m:Str)(a:LS)(u:Str):Prop:=u=m\/∃ c∈a,u=c\/f c=some u
structure Mg(f:Str->Option Str)(S S':FS)(v w m:Str)(l1 m1:LS):Prop where
 par:S'.par=S.par
 old:∀ u r,S.rows u=some r->S'.rows u=some r
 new:∀ u r,S'.rows u=some r->S.rows u=some r\/(∃ c∈l1,f c=some u/\NewRow S v w u r)\/(∃ c∈m1,f c=some u/\NewRow S w v u r)
 all:∀ c∈l1++m1,∀ q,f c=some q->∃ r,S'.rows q=some r
 inn:∀ u,InR f m (l1++m1) (S.bas u)->S'.bas u=m
 out:∀ u,¬ InR f m (l1++m1) (S.bas u)->S'.bas u=S.bas u
theorem cut_one{a b c d:LS}{x:Str}(h:(a++x::b).Nodup)(e:a++x::b=c++x::d):a=c/\b=d:=by
 induction a generalizing c with
 | nil =>
  cases c with
  | nil=>show⟨rfl,(xD e).2⟩
  | cons y c =>
   obtain⟨f,g⟩:=xD e;show absurd (show x∈b by rw[g];simp) (yo.mp h).1
 | cons y a ih =>
  cases c with
  | nil =>
   obtain⟨f,g⟩:=xD e;show absurd (show y∈a++x::b by rw[f];simp) (yo.mp h).1
  | cons z c =>
   obtain⟨f,g⟩:=xD e;obtain⟨h1,i⟩:=ih (yo.mp h).2 g;show⟨by rw[f,h1],i⟩
theorem NewRow.ok(G:Gr A f)(I:FI A f S){w c:Str}(hv:S.rows v=some rv)(hw:S.rows w=some rw)(h:Ch f S (S.bas v) l)(h':Ch f S (S.bas w) l')(o:l=l1++l2)(H:∀ d∈l1,d∉l')(F:A w v)(hb:S.bas w≠S.bas v)(hc:c∈l1)(K:f c=some u)(J:NewRow S v w u r) :
  Alt A f r u/\S.rows u=none/\∃ t,r=rw++t/\∀ x∈t,Cov f S l1 x:=by
 obtain⟨L,M,rz,t,p,q,s,y⟩:=J;rw[hv] at p;cases p;rw[hw] at q;cases q;obtain⟨a,b,n⟩:=Yr hc;obtain⟨N,t',j,B,C,m⟩:=h.suf I hv (l1:=a) (c:=c) (l2:=b++l2) (by rw[o,n];simp) K;have e:=(I.alt v rv hv).nd;obtain⟨D,E⟩:=cut_one (by rw[<- s];show e) (s.symm.trans j);subst D;subst E;have sub:∀ d∈a++[c],d∈l1:=fun d z=>by rw[n];rcases yx.mp z with z | z;show yS _ z;rw[yv.mp z];simp
 have inl:∀ d∈l1,d∈l:=fun d z=>by rw[o];show yS _ z
 show⟨?_,C,_,y,fun x g=>(m x (XA.mp g)).mono sub⟩;rw[y];show Alt.back G (I.alt w rw hw) (I.alt v rv hv) j B F (fun z=>hb (I.pair hw hv z)) fun x g i=>?_;show Cov.apart G I (fun d z=>h.bs0 I hv (inl d (sub d z))) (fun d z=>h'.bs0 I hw z) (fun d z=>H d (sub d z)) (m x i) (h'.cov G I hw g)
theorem FI.merge(G:Gr A f)(I:FI A f S){w m:Str}{m1:LS}(hv:S.rows v=some rv)(hw:S.rows w=some rw)(h:Ch f S (S.bas v) (l1++m::l2))(h':Ch f S (S.bas w) (m1++m::l2))(hd:∀ d∈l1,d∉m1++m::l2)(U:∀ d∈m1,d∉l1++m::l2)(ha:A v w)(hb:S.bas v≠S.bas w)(M:Mg f S S' v w m l1 m1):FI A f S':=by
 have hm:∃ r,S.rows m=some r/\S.bas m=m:=h.bs0 I hv (by simp);obtain⟨P,H,W⟩:=hm
 have B:∀ c∈l1++m1,(∃ r,S.rows c=some r/\S.bas c=c)/\c≠m/\∃ q,f c=some q/\S.rows q=none:=fun c hc=>by
  rcases yx.mp hc with z | z
  .show⟨h.bs0 I hv (yS _ z),fun e=>hd c z (by rw[e];simp),?_⟩;obtain⟨a,b,E⟩:=Yr z;obtain⟨rc,_,D,o,p,_⟩:=h.up I hv rfl (l1:=a) (c:=c) (l2:=b++m::l2) (by rw[E];simp);generalize l:b++m::l2=x at p
   cases p with
   | root _=>show absurd (congrArg List.length l) (by simp)
   | step e _ _=>show⟨_,e,(I.dwn _ _ _ D o e).1⟩
  .show⟨h'.bs0 I hw (yS _ z),fun e=>U c z (by rw[e];simp),?_⟩;obtain⟨a,b,E⟩:=Yr z;obtain⟨rc,_,D,o,p,_⟩:=h'.up I hw rfl (l1:=a) (c:=c) (l2:=b++m::l2) (by rw[E];simp);generalize l:b++m::l2=x at p
   cases p with
   | root _=>show absurd (congrArg List.length l) (by simp)
   | step e _ _=>show⟨_,e,(I.dwn _ _ _ D o e).1⟩
 have cov:∀ u,Cov f S (l1++m1) u->S'.bas u=m:=fun u ⟨d,hd,z⟩=>by
  show M.inn u ?_;rcases z with z | z
  .show .inr ⟨d,hd,.inl z⟩
  .have hn:=(B d hd).2.2;obtain⟨q,e,F⟩:=hn;rw[z] at e;cases e;rw[I.own F];show .inr ⟨d,hd,.inr z⟩
 have K:∀ u,Cov f S l1 u->S'.bas u=m:=fun u z=>cov u (z.mono fun d y=>yS _ y);have L:∀ u,Cov f S m1 u->S'.bas u=m:=fun u z=>cov u (z.mono fun d y=>yR _ y);have bm:∀ u,S.bas u=m->S'.bas u=m:=fun u z=>M.inn u (.inl z);have m0:S'.bas m=m:=bm m W;have Z:=M.old m P H
 have J:∀{x:Str} {rx a b:LS},S.rows x=some rx->Ch f S (S.bas x) (a++m::b)->(∀ d∈a,d∈l1++m1)->∃ t,rx=P++t/\∀ u∈t,S'.bas u=m:=fun{x rx a b} l hc hs=>by
  obtain⟨rc,t,D,_,_,R,g5⟩:=hc.up I l rfl rfl;rw[H] at D;cases D;show⟨t,R,fun u j=>(g5 u j).elim (bm u) fun z=>cov u (z.mono hs)⟩
 have nw:∀ u r,(∃ c∈l1,f c=some u/\NewRow S v w u r)\/(∃ c∈m1,f c=some u/\NewRow S w v u r)->Alt A f r u/\S.rows u=none/\S'.bas u=m/\∃ t,r=P++t/\∀ x∈t,S'.bas x=m:=fun u r z=>by
  rcases z with⟨c,hc,j,C⟩ | ⟨c,hc,j,C⟩
  .obtain⟨D,o,t,p,R⟩:=NewRow.ok G I hv hw h h' rfl hd (G.as ha) (Yd hb) hc j C;obtain⟨t0,p1,p2⟩:=J hw h' fun d y=>yR _ y;show⟨D,o,K u ⟨c,hc,.inr j⟩,t0++t,by rw[p,p1];simp,fun x l=>(yx.mp l).elim (p2 x) fun y=>K x (R x y)⟩
  .obtain⟨D,o,t,p,R⟩:=NewRow.ok G I hw hv h' h rfl U ha hb hc j C;obtain⟨t0,p1,p2⟩:=J hv h fun d y=>yS _ y;show⟨D,o,L u ⟨c,hc,.inr j⟩,t0++t,by rw[p,p1];simp,fun x l=>(yx.mp l).elim (p2 x) fun y=>L x (R x y)⟩
 have af:∀ u r,S.rows u=some r->InR f m (l1++m1) (S.bas u)->S.bas u=m\/S.bas u∈l1++m1:=fun u r j z=>by
  rcases z with z | ⟨c,hc,z | z⟩
  .show .inl z
  .show .inr (by rw[z];show hc)
  .obtain⟨q,e,F⟩:=(B c hc).2.2;rw[z] at e;cases e;obtain⟨rb,n⟩:=I.evb j;rw[F] at n;cases n
 show⟨fun u r j=>?_,fun u r j=>?_,fun u r j=>?_,fun b r q aa O F=>?_,fun u j=>?_,fun x z l=>?_⟩
 .rcases M.new u r j with z | z
  .show I.alt u r z
  .show(nw u r z).1
 .rcases M.new u r j with z | z
  .by_cases i:InR f m (l1++m1) (S.bas u)
   .rw [M.inn u i];show⟨P,?_⟩
    have:∃ t,r=P++t/\∀ x∈t,S'.bas x=m:=by
     rcases af u r z i with y | y
     .obtain⟨rb,t,N,n,e3⟩:=I.bse u r z;rw[y,H] at N;cases N;show⟨t,n,fun x l=>bm x ((e3 x l).trans y)⟩
     .rcases yx.mp y with y | y
      .obtain⟨a,b,E⟩:=Yr y;obtain⟨_,_,_,_,g,_⟩:=h.up I hv rfl (l1:=a) (c:=S.bas u) (l2:=b++m::l2) (by rw[E];simp);show J z (a:=S.bas u::b) (by simpa using g) fun d hd=>by rw[E];rcases yz.mp hd with rfl | hd<;>simp[*]
      .obtain⟨a,b,E⟩:=Yr y;obtain⟨_,_,_,_,g,_⟩:=h'.up I hw rfl (l1:=a) (c:=S.bas u) (l2:=b++m::l2) (by rw[E];simp);show J z (a:=S.bas u::b) (by simpa using g) fun d hd=>by rw[E];rcases yz.mp hd with rfl | hd<;>simp[*]
    obtain⟨t,N,n⟩:=this;show⟨t,Z,N,n⟩
   .rw [M.out u i];obtain⟨rb,t,N,n,e3⟩:=I.bse u r z;show⟨rb,t,M.old _ _ N,n,fun x l=>by rw[M.out x (by rw[e3 x l];show i)];show e3 x l⟩
  .obtain⟨_,_,e,t,N,n⟩:=nw u r z;rw[e];show⟨P,t,Z,N,n⟩
 .by_cases i:InR f m (l1++m1) (S.bas u)
  .rw [M.inn u i];show m0
  .rw [M.out u i];rcases M.new u r j with z | z
   .have e:=I.idm u r z;rw[M.out _ (by rw[e];show i)];show e
   .obtain⟨_,o,_⟩:=nw u r z;have e:=I.own o;rw[e,M.out u (by rw[e] at i ⊢;show i)];show e
 .have ac:S.bas b=b/\(b=m\/¬ InR f m (l1++m1) (S.bas b)):=by
   by_cases i:InR f m (l1++m1) (S.bas b)
   .have:=M.inn b i;rw[O] at this;rw[this];show⟨W,.inl rfl⟩
   .have:=M.out b i;rw[O] at this;show⟨this.symm,.inr i⟩
  obtain⟨T,ad⟩:=ac
  have C:S.rows b=some r:=by
   rcases M.new b r aa with z | z
   .show z
   .exfalso;obtain⟨_,o,p,_⟩:=nw b r z;rw[O] at p;rw[p,H] at o;cases o
  obtain⟨k1,z,rz,k2,k3,k4⟩:=I.dwn b r q C T F;show⟨?_,z,rz,by rw[M.par];show k2,M.old _ _ k3,k4⟩
  cases e:S'.rows q with
  | none=>rfl
  | some s =>
   exfalso
   have Y:∀ c∈l1++m1,f c=some q->False:=fun c hc ae=>by
    have:=G.fs ae;rw[G.fs F] at this;have n:=ym this;subst n;rcases ad with y | y
    .show(B b hc).2.1 y
    .show y (.inr ⟨b,hc,.inl T⟩)
   rcases M.new q s e with y | ⟨c,hc,y,_⟩ | ⟨c,hc,y,_⟩
   .rw [k1] at y;cases y
   .show Y c (yS _ hc) y
   .show Y c (yR _ hc) y
 .by_cases i:InR f m (l1++m1) (S.bas u)
  .rw [M.inn u i] at j ⊢;by_cases X:S.bas u=u
   .rw [X] at i;rcases i with z | ⟨c,hc,z | z⟩
    .show absurd z.symm j
    .subst z;obtain⟨⟨r,C,_⟩,_,q,F,_⟩:=B u hc;show⟨⟨r,M.old _ _ C⟩,q,F,cov q ⟨u,hc,.inr F⟩⟩
    .show⟨M.all c hc u z,c,G.fs z,cov c ⟨c,hc,.inl (B c hc).1.choose_spec.2⟩⟩
   .obtain⟨⟨r,C⟩,y,hy,e⟩:=I.mat u X;show⟨⟨r,M.old _ _ C⟩,y,hy,M.inn y (by rw[e];show i)⟩
  .rw [M.out u i] at j ⊢;obtain⟨⟨r,C⟩,y,hy,e⟩:=I.mat u j;show⟨⟨r,M.old _ _ C⟩,y,hy,by rw[M.out y (by rw[e];show i)];show e⟩
 .rw [M.par] at l;obtain⟨k1,⟨r,k2⟩,y,s,k3,k4⟩:=I.odd x z l;show⟨k1,⟨r,M.old _ _ k2⟩,y,s,k3,M.old _ _ k4⟩
end
structure Aug(A:Str->Str->Prop)(f:Str->Option Str)(r:LS):Prop where
 nd:r.Nodup
 two:2<=r.length
 ev:r.length % 2=0
 st:Turns A f r
 hd:∀ s,r[0]?=some s->f s=none
 tl:∀ s,r[r.length-1]?=some s->f s=none
section
variable{A:Str->Str->Prop}{f:Str->Option Str}{S S':FS}
theorem FI.aug(G:Gr A f)(I:FI A f S){w:Str}(hv:S.rows v=some rv)(hw:S.rows w=some rw)(h:Ch f S (S.bas v) l)(h':Ch f S (S.bas w) l')(hl:l.getLast?≠l'.getLast?)(E:A v w):Aug A f (rv++rw.reverse):=by
 have n:∀ d∈l,d∉l':=fun d F p=>by
  obtain⟨a,b,e⟩:=Yr F;obtain⟨x,y,q⟩:=Yr p;obtain⟨_,_,_,_,k,_⟩:=h.up I hv rfl e;obtain⟨_,_,_,_,k',_⟩:=h'.up I hw rfl q;have:=k.one k';show hl (by rw[e,q,this,X8,X8];rfl)
 have c:=I.alt v rv hv;have g:=I.alt w rw hw;obtain⟨O,r⟩:=c.tl;obtain⟨P,t⟩:=g.tl;have K:0<rv.length:=by rw[r];simp
 have L:0<rw.length:=by rw[t];simp
 have M:=c.odd;have N:=g.odd
 have H:f v≠some w:=fun z=>by
  have e:=I.pair hv hw z;have:=h.one (e ▸ h');rw[this] at hl;show hl rfl
 have at_:∀{j:Nat} {a:Str},rw.reverse[j]?=some a->j<rw.length/\rw[rw.length-1-j]?=some a:=fun{j a} e=>by
  have hl:=(yc.mp e).1;rw[Yl] at hl;rw[xM hl] at e;show⟨hl,e⟩
 show⟨yX.mpr ⟨c.nd,(kC _).nodup_iff.mpr g.nd,fun x J y u e=>?_⟩,by rw[yt,Yl];lk,by rw[yt,Yl];lk,c.st.app (fun j a b h1 o=>?_) fun a b h1 o _=>?_,fun s i=>?_,fun s i=>?_⟩
 .rw [<- e] at u;show Cov.apart G I (fun d z=>h.bs0 I hv z) (fun d z=>h'.bs0 I hw z) n (h.cov G I hv J) (h'.cov G I hw (XA.mp u))
 .obtain⟨l1,B⟩:=at_ h1;obtain⟨l2,m⟩:=at_ o;have:=g.st (rw.length-1-(j+1)) b a m (by rw[show rw.length-1-(j+1)+1=rw.length-1-j by lk];show B);show⟨G.as this.1,⟨fun z=>?_,fun z=>?_⟩⟩
  .have:=this.2.mp (G.fs z);lk
  .show G.fs (this.2.mpr (by lk))
 .have C:a=v:=by
   rw[r,yt,yB (by simp)] at h1;simpa using h1.symm
  have D:b=w:=by
   obtain⟨_,m⟩:=at_ o;rw[Ke,t,yt,yB (by simp)] at m;simpa using m.symm
  subst C;subst D;show⟨E,⟨fun z=>absurd z H,fun z=>by lk⟩⟩
 .rw [yF K] at i;show c.hd s i
 .rw [yt,Yl,yB (by lk),show rv.length+rw.length-1-rv.length=rw.length-1 by lk] at i;obtain⟨_,e⟩:=at_ i;rw[XY] at e;show g.hd s e
structure Gw(S S':FS)(p u y:Str)(r:LS):Prop where
 ry:S'.rows y=some (r++[u,y])
 ro:∀ s,s≠y->S'.rows s=S.rows s
 pu:S'.par u=some p
 po:∀ s,s≠u->S'.par s=S.par s
 ba:S'.bas=S.bas
theorem FI.fresh(G:Gr A f)(I:FI A f S)(a:S.rows u=none)(g:S.par u=none)(c:f u=some y):S.rows y=none:=by
 cases e:S.rows y with
 | none=>rfl
 | some s =>
  exfalso;by_cases z:S.bas y=y
  .obtain⟨_,_,_,k,_⟩:=I.dwn y s u e z (G.fs c);rw[g] at k;cases k
  .obtain⟨_,x,b,k⟩:=I.mat y z;rw[G.fs c] at b;cases b;rw[I.own a] at k;obtain⟨h,d⟩:=I.evb e;rw[<- k,a] at d;cases d
theorem FI.grow(G:Gr A f)(I:FI A f S){p:Str}(o:S.rows p=some r)(O:A p u)(w:S.rows u=none)(K:S.par u=none)(n:f u=some y)(W:Gw S S' p u y r):FI A f S':=by
 have c:=I.fresh G w K n;have R:u≠y:=G.ir (G.fa n);have py:p≠y:=fun z=>by rw[z,c] at o;cases o
 have g:∀ s t,S.rows s=some t->S'.rows s=some t:=fun s t e=>by rw[W.ro s (fun z=>by rw[z,c] at e;cases e)];show e
 have new:∀ s t,S'.rows s=some t->(s=y/\t=r++[u,y])\/(s≠y/\S.rows s=some t):=fun s t e=>by
  by_cases z:s=y
  .subst z;rw[W.ry] at e;show .inl ⟨rfl,(ym e).symm⟩
  .rw [W.ro s z] at e;show .inr ⟨z,e⟩
 obtain⟨l,hl⟩:=I.chainOf o
 have C:∀ x∈r,x≠u/\x≠y:=fun x D=>by
  obtain⟨d,U,z⟩:=hl.cov G I o D;obtain⟨rd,i,m⟩:=hl.bs0 I o U;show⟨fun e=>?_,fun e=>?_⟩
  .rw [e] at z;rcases z with z | z
   .rw [I.own w] at z;rw[z,i] at w;cases w
   .obtain⟨_,_,_,k,_⟩:=I.dwn d rd u i m z;rw[K] at k;cases k
  .rw [e] at z;rcases z with z | z
   .rw [I.own c] at z;rw[z,i] at c;cases c
   .have:=G.fs z;rw[G.fs n] at this;rw[ym this,i] at w;cases w
 have B:=I.alt p r o;obtain⟨r0,N⟩:=B.tl;have L:0<r.length:=by rw[N];simp
 show⟨fun v t e=>?_,fun v t e=>?_,fun v t e=>?_,fun b t q e hb F=>?_,fun v e=>?_,fun x z e=>?_⟩
 .rcases new v t e with⟨rfl,rfl⟩ | ⟨_,e⟩
  .show⟨yX.mpr ⟨B.nd,by simp[R],fun x D z hz E=>?_⟩,by rw[yt];have:=B.odd;simp only[yy,Ym];lk,fun s P=>?_,⟨r++[u],by simp⟩,B.st.app (fun j a b h1 J=>?_) fun a b h1 J _=>?_⟩
   .obtain⟨Y,Z⟩:=C x D;simp only[yz,yM,Yt] at hz;rcases hz with rfl | rfl
    .show Y E
    .show Z E
   .rw [yF L] at P;show B.hd s P
   .have X:j=0:=by have:=(yc.mp J).1;simp at this;lk
    subst X;cases h1;cases J;show⟨G.fa n,⟨fun _=>by have:=B.odd;lk,fun _=>n⟩⟩
   .cases J
    have T:a=p:=by
     rw[N,yt,yB (by simp)] at h1;simpa using h1.symm
    subst T;show⟨O,⟨fun z=>?_,fun z=>by have:=B.odd;lk⟩⟩;have:=G.fs z;rw[n] at this;show absurd (ym this).symm py
  .show I.alt v t e
 .rw [W.ba];rcases new v t e with⟨rfl,rfl⟩ | ⟨_,e⟩
  .rw [I.own c];show⟨_,[],W.ry,by simp,(fun x h=>by cases h)⟩
  .obtain⟨rb,s,i,m,H⟩:=I.bse v t e;show⟨rb,s,g _ _ i,m,H⟩
 .rw [W.ba];rcases new v t e with⟨rfl,rfl⟩ | ⟨_,e⟩
  .rw [I.own c,I.own c]
  .show I.idm v t e
 .rw [W.ba] at hb;rcases new b t e with⟨rfl,rfl⟩ | ⟨_,e⟩
  .rw [G.fs n] at F;cases F;show⟨by rw[W.ro u R];show w,p,r,W.pu,g _ _ o,rfl⟩
  .obtain⟨i,z,rz,m,H,M⟩:=I.dwn b t q e hb F;show⟨?_,z,rz,?_,g _ _ H,M⟩
   .rw [W.ro q fun z=>?_]
    .show i
    .rw [z] at F;have:=G.fs F;rw[G.fs n] at this;rw[<- ym this,w] at e;cases e
   .rw [W.po q fun z=>?_]
    .show m
    .rw [z,K] at m;cases m
 .rw [W.ba] at e ⊢;obtain⟨⟨t,i⟩,m⟩:=I.mat v e;show⟨⟨t,g _ _ i⟩,m⟩
 .by_cases D:x=u
  .subst D;rw[W.pu] at e;cases e;show⟨O,⟨r,g _ _ o⟩,y,_,n,W.ry⟩
  .rw [W.po x D] at e;obtain⟨i,⟨t,m⟩,y',s,H,M⟩:=I.odd x z e;show⟨i,⟨t,g _ _ m⟩,y',s,H,g _ _ M⟩
theorem FI.start(h1:∀ v r,S.rows v=some r->f v=none/\r=[v])(d:∀ x,S.par x=none)(c:∀ v,S.bas v=v):FI A f S:=by
 show⟨fun v r e=>?_,fun v r e=>?_,fun v r e=>by rw[c,c],fun b r q e _ g=>?_,fun v e=>absurd (c v) e,fun x z e=>by rw[d] at e;cases e⟩
 .obtain⟨k,rfl⟩:=h1 v r e;show⟨by simp,rfl,fun s i=>by cases i;show k,⟨[],rfl⟩,fun j a b h1 d=>?_⟩;simp at d
 .show⟨r,[],by rw[c];show e,by simp,(fun x h=>by cases h)⟩
 .rw [(h1 b r e).1] at g;cases g
end
structure CI(A:Str->Str->Prop)(S:FS)(Pd:Str->Prop):Prop where
 cl:∀ v u,Pd v->A v u->S.bas u=S.bas v\/(S.par u≠none/\¬ Pd u)
 pe:∀ v,Pd v->S.rows v≠none
theorem CI.mono(h:CI A S Pd)(hb:∀ u v,S.bas u=S.bas v->S'.bas u=S'.bas v)(b:∀ u,S.par u≠none->S'.par u≠none)(c:∀ u,S.rows u≠none->S'.rows u≠none):CI A S' Pd:=
 ⟨fun v u k a=>(h.cl v u k a).imp (hb u v) fun z=>⟨b u z.1,z.2⟩,fun v k=>c v (h.pe v k)⟩
theorem qdl:∀{l m:LS},l.Nodup->(∀ x∈l,x∈m)->l.length<=m.length
 | [],_,_,_=>YW _
 | x::r,m,hn,hs=>by
  obtain⟨h1,c⟩:=yo.mp hn;have a:=hs x yY;have:=qdl (l:=r) (m:=m.erase x) c fun y b=>(List.mem_erase_of_ne (fun e=>h1 (by rw[<- e];show b))).mpr (hs y (yN _ b));rw[xR a] at this;have:0<m.length:=Xj a;simp only[yy];lk
theorem qeQ:∀(n:Nat) {X:LS},X.length<=n->X.Nodup->(∀ x∈X,∃ y∈X,g x=some y/\y≠x/\g y=some x)->X.length % 2=0
 | _,[],_,_,_=>rfl
 | 0,x::r,h,_,_=>by simp at h
 | n+1,x::r,h,hn,hp=>by
  obtain⟨h1,d⟩:=yo.mp hn;obtain⟨y,p,j,i,l⟩:=hp x yY;have c:y∈r:=(yz.mp p).resolve_left i;have hl:=xR c;have t:0<r.length:=Xj c
  have:=qeQ n (X:=r.erase y) (by simp at h;lk) (d.erase y) fun z hz=>by
   have a:=(d.mem_erase_iff.mp hz);obtain⟨u,o,m,f,b⟩:=hp z (yN _ a.2);have q:u≠x:=fun e=>by rw[e,j] at b;show a.1 (ym b).symm
   have s:u≠y:=fun e=>by rw[e,l] at b;show h1 (by rw[ym b];show a.2)
   show⟨u,d.mem_erase_iff.mpr ⟨s,(yz.mp o).resolve_left q⟩,m,f,b⟩
  simp only[yy];lk
structure Fn(A:Str->Str->Prop)(f:Str->Option Str)(S:FS)(ss:LS):Prop where
 fi:FI A f S
 gr:Gr A f
 inn:∀ a b,A a b->a∈ss
 nd:ss.Nodup
 cl:∀ v u,S.rows v≠none->A v u->S.bas u=S.bas v\/(S.par u≠none/\S.rows u=none)
 sng:∀ z∈ss,f z=none->S.rows z≠none
 es:∀ v,S.rows v≠none->v∈ss
noncomputable def qeb(S:FS)(ss:LS)(b:Str):LS:=ss.filter fun u=>(S.rows u).isSome&&decide (S.bas u=b)
noncomputable def qbm(S:FS)(ss:LS):LS:=ss.filter fun u=>(S.rows u).isSome&&decide (S.bas u=u)
noncomputable def qd3(S:FS)(ss:LS):LS:=ss.filter fun u=>(S.par u).isSome&&!(S.rows u).isSome
noncomputable def snL(g:Str->Option Str)(ss:LS):LS:=ss.filter fun u=>!(g u).isSome
section
variable{A:Str->Str->Prop}{f g:Str->Option Str}{S:FS}{ss:LS}
theorem isS{o:Option α}:o.isSome=true↔o≠none:=by cases o<;>simp
theorem mem_cls:u∈qeb S ss b↔u∈ss/\S.rows u≠none/\S.bas u=b:=by
 unfold qeb;rw[yp,Yh,isS,Yq]
theorem mem_bas:u∈qbm S ss↔u∈ss/\S.rows u≠none/\S.bas u=u:=by
 unfold qbm;rw[yp,Yh,isS,Yq]
theorem mem_bar:u∈qd3 S ss↔u∈ss/\S.par u≠none/\S.rows u=none:=by
 unfold qd3;rw[yp,Yh,isS];cases S.rows u<;>simp
theorem mem_sn:u∈snL g ss↔u∈ss/\g u=none:=by
 unfold snL;rw[yp];cases g u<;>simp
theorem some_of{o:Option α}(h:o≠none):∃ r,o=some r:=by cases o with | none=>show absurd rfl h | some r=>show⟨r,rfl⟩
theorem FI.evE(I:FI A f S)(hv:S.rows v≠none)(e:S.bas u=S.bas v):S.rows u≠none:=fun a=>by
 obtain⟨r,b⟩:=some_of hv;obtain⟨c,hb⟩:=I.evb b;rw[I.own a] at e;rw[<- e,a] at hb;cases hb
theorem Fn.cls_odd(F:Fn A f S ss)(hb:b∈qbm S ss):(qeb S ss b).length % 2=1:=by
 obtain⟨o,j,l⟩:=mem_bas.mp hb;have c:b∈qeb S ss b:=mem_cls.mpr ⟨o,j,l⟩;have a:(qeb S ss b).Nodup:=F.nd.filter _
 have:=qeQ (g:=f) _ (X:=(qeb S ss b).erase b) (yh _) (a.erase b) fun z hz=>by
  obtain⟨q,hz⟩:=a.mem_erase_iff.mp hz;obtain⟨s,m,n⟩:=mem_cls.mp hz;obtain⟨_,u,d,h⟩:=F.fi.mat z (fun e=>q (e.symm.trans n));have i:=F.fi.evE m h;show⟨u,a.mem_erase_iff.mpr ⟨fun e=>?_,mem_cls.mpr ⟨F.es u i,i,h.trans n⟩⟩,d,Yd (F.gr.ir (F.gr.fa d)),F.gr.fs d⟩;obtain⟨r,p⟩:=some_of j;rw[e] at d;show m (F.fi.dwn b r z p l (F.gr.fs d)).1
 rw[xR c] at this;have:=Xj c;lk
theorem Fn.count(F:Fn A f S ss):(qbm S ss).length=(snL f ss).length+(qd3 S ss).length:=by
 have hb:(qbm S ss).Nodup:=F.nd.filter _
 have e:(qbm S ss).length=((qbm S ss).filter fun b=>!(f b).isSome).length+((qbm S ss).filter fun b=>(f b).isSome).length:=by
  generalize qbm S ss=l
  induction l with
  | nil=>rfl
  | cons x r ih =>
   rw[yL,yL,yy,ih];cases (f x).isSome
   .rw [yG (show(!false)=true from rfl),yE Yo,yy];lk
   .rw [yE (show ¬ (!true)=true by decide),yG (show true=true from rfl),yy];lk
 rw[e];have C:((qbm S ss).filter fun b=>!(f b).isSome).length=(snL f ss).length:=kl
  (qdl (hb.filter _) fun x c=>by
   obtain⟨h1,d⟩:=yp.mp c;show mem_sn.mpr ⟨(mem_bas.mp h1).1,?_⟩
   cases e:f x with
   | none=>rfl
   | some y=>rw[e] at d;cases d)
  (qdl (F.nd.filter _) fun x c=>by
   obtain⟨h1,d⟩:=mem_sn.mp c;show yp.mpr ⟨mem_bas.mpr ⟨h1,F.sng x h1 d,YT fun z=>?_⟩,by rw[d];rfl⟩;obtain⟨_,u,i,_⟩:=F.fi.mat x z;rw[d] at i;cases i)
 have D:((qbm S ss).filter fun b=>(f b).isSome).length=(qd3 S ss).length:=by
  have inj:(((qbm S ss).filter fun b=>(f b).isSome).map fun b=>(f b).getD "").Nodup:=by
   show kD.mpr (xq (fun{a b} E g o e=>?_) (hb.filter _));obtain⟨x,c⟩:=YL.mp (yp.mp E).2;obtain⟨y,v⟩:=YL.mp (yp.mp g).2;rw[c,v] at e;have n:x=y:=e;have k:=F.gr.fs c;rw[n,F.gr.fs v] at k;show o (ym k).symm
  show kl ?_ ?_
  .have:=qdl inj (m:=qd3 S ss) fun q p=>?_
   rwa[ya] at this
   obtain⟨b,g,rfl⟩:=YH.mp p;obtain⟨h1,d⟩:=yp.mp g;obtain⟨x,c⟩:=YL.mp d;obtain⟨K,w,B⟩:=mem_bas.mp h1;obtain⟨r,G⟩:=some_of w;obtain⟨j,z,rz,t,_⟩:=F.fi.dwn b r x G B c;rw[c];have H:S.par x≠none:=by rw[t];show fun e=>by cases e
   show x∈qd3 S ss;show mem_bar.mpr ⟨F.inn _ _ (F.gr.as (F.gr.fa c)),H,j⟩
  .have:(qd3 S ss).length<=(((qbm S ss).filter fun b=>(f b).isSome).map fun b=>(f b).getD "").length:=qdl (F.nd.filter _) fun q p=>?_
   rwa[ya] at this
   obtain⟨L,I,J⟩:=mem_bar.mp p;obtain⟨z,hz⟩:=some_of I;obtain⟨_,_,y,r,j,t⟩:=F.fi.odd q z hz;have h:S.rows y≠none:=by rw[t];show fun e=>by cases e
   show YH.mpr ⟨y,yp.mpr ⟨mem_bas.mpr ⟨F.es y h,h,YT fun e=>?_⟩,by rw[F.gr.fs j];rfl⟩,by rw[F.gr.fs j];rfl⟩;obtain⟨_,u,i,s⟩:=F.fi.mat y e;rw[F.gr.fs j] at i;cases i;show F.fi.evE h s J
 rw[C,D]
theorem Fn.most(F:Fn A f S ss)(l:Gr A g):(snL f ss).length<=(ss.filter fun u=>!(g u).isSome&&(S.rows u).isSome).length:=by
 have key:∀ b∈qbm S ss,∃ v∈qeb S ss b,g v=none\/∃ w,g v=some w/\w∈qd3 S ss:=fun b hb=>YT fun p=>by
  have B:=F.cls_odd hb
  have:=qeQ (g:=g) _ (X:=qeb S ss b) (yh _) (F.nd.filter _) fun v hv=>by
   obtain⟨C,r,D⟩:=mem_cls.mp hv
   cases e:g v with
   | none=>show absurd ⟨v,hv,.inl e⟩ p
   | some w =>
    have hw:=l.as (l.fa e);rcases F.cl v w r (l.fa e) with z | ⟨z1,z2⟩
    .have q:=F.fi.evE r z;show⟨w,mem_cls.mpr ⟨F.es w q,q,z.trans D⟩,rfl,Yd (l.ir (l.fa e)),l.fs e⟩
    .show absurd ⟨v,hv,.inr ⟨w,e,mem_bar.mpr ⟨F.inn _ _ hw,z1,z2⟩⟩⟩ p
  lk
 obtain⟨j,i⟩:∃ j:Str->Str,∀ b∈qbm S ss,j b∈qeb S ss b/\(g (j b)=none\/∃ w,g (j b)=some w/\w∈qd3 S ss):=
  ⟨fun b=>@dite _ (b∈qbm S ss) (Classical.propDecidable _) (fun h=>(key b h).choose) fun _=>b,fun b hb=>by
   dsimp only;rw[dif_pos hb];show⟨(key b hb).choose_spec.1,(key b hb).choose_spec.2⟩⟩
 have inj:∀ a∈qbm S ss,∀ b∈qbm S ss,j a=j b->a=b:=fun a m b hb e=>by
  have h1:=(mem_cls.mp (i a m).1).2.2;have E:=(mem_cls.mp (i b hb).1).2.2;rw[<- h1,<- E,e]
 have hb:(qbm S ss).Nodup:=F.nd.filter _
 have s:(qbm S ss).length<=((ss.filter fun u=>!(g u).isSome&&(S.rows u).isSome)++qd3 S ss).length:=by
  rw[<- ya (f:=fun b=>(g (j b)).getD (j b))];show qdl (kD.mpr (xq (fun{a b} m d o e=>?_) hb)) fun x G=>?_
  .have t:∀ c∈qbm S ss,S.rows (j c)≠none:=fun c hc=>(mem_cls.mp (i c hc).1).2.1;rcases(i a m).2 with z | ⟨w,z,hw⟩<;>rcases(i b d).2 with y | ⟨u,y,hu⟩
   .rw [z,y] at e;show o (inj a m b d e)
   .rw [z,y] at e;have n:j a=u:=e;show t a m (by rw[n];show(mem_bar.mp hu).2.2)
   .rw [z,y] at e;have n:w=j b:=e;show t b d (by rw[<- n];show(mem_bar.mp hw).2.2)
   .rw [z,y] at e;have n:w=u:=e;have k:=l.fs z;rw[n,l.fs y] at k;show o (inj a m b d (ym k).symm)
  .obtain⟨b,d,rfl⟩:=YH.mp G;obtain⟨C,r,D⟩:=mem_cls.mp (i b d).1;rcases(i b d).2 with z | ⟨w,z,hw⟩
   .rw [z];show yS _ (yp.mpr ⟨C,by show(!(g (j b)).isSome&&(S.rows (j b)).isSome)=true;rw[z,isS.mpr r];rfl⟩)
   .rw [z];show yR _ hw
 rw[F.count,yt] at s;lk
end
theorem qdO:∀{qs:LP},pt qs s=some t->(s,t)∈qs\/(t,s)∈qs
 | [],h=>by cases h
 | q::r,h=>by
  unfold pt at h;split at h
  .rename_i e;cases h;show .inl (by rw[<- e];simp)
  .split at h
   .rename_i e;cases h;show .inr (by rw[<- e];simp)
   .rcases qdO h with z | z
    .show .inl (yN _ z)
    .show .inr (yN _ z)
theorem qfo:∀{qs:LP},(qv qs).Nodup->∀{a b:Str},(a,b)∈qs\/(b,a)∈qs->pt qs a=some b
 | [],_,a,b,m=>by rcases m with z | z<;>cases z
 | q::r,h,a,b,m=>by
  have f:(q.1::q.2::qv r).Nodup:=h;obtain⟨i,n⟩:=yo.mp f;obtain⟨o,p⟩:=yo.mp n;have inr:∀{x y:Str},(x,y)∈r->x∈qv r/\y∈qv r:=fun d=>⟨Xc.mpr ⟨_,d,by simp⟩,Xc.mpr ⟨_,d,by simp⟩⟩;unfold pt
  have c:(a,b)∈r\/(b,a)∈r->(if q.1=a then some q.2 else if q.2=a then some q.1 else pt r a)=some b:=fun l=>by
   have j:a∈qv r:=l.elim (fun z=>(inr z).1) fun z=>(inr z).2;rw[yE (fun z=>i (by rw[z];show yN _ j)),yE (fun z=>o (by rw[z];show j))];show qfo p l
  rcases m with z | z
  .rcases yz.mp z with z | z
   .subst z;rw[yG rfl]
   .show c (.inl z)
  .rcases yz.mp z with z | z
   .subst z;have g:b≠a:=fun e=>i (by show b∈a::_;rw[e];show yY);rw[yE g,yG rfl]
   .show c (.inr z)
theorem qdP(h:(qv qs).Nodup):pt qs a=some b↔(a,b)∈qs\/(b,a)∈qs:=⟨qdO,qfo h⟩
theorem qdQ(h:(qv qs).Nodup):pt qs a=some b↔pt qs b=some a:=by
 rw[qdP h,qdP h,Or.comm]
theorem qdR{x y:Option Str}(h:∀ b,x=some b↔y=some b):x=y:=by
 cases x with
 | none=>cases y with
  | none=>rfl
  | some b=>show absurd ((h b).mpr rfl) (fun z=>by cases z)
 | some a=>show((h a).mp rfl).symm
theorem uw:FnScope ["self","place","row"] ["self","place","row"] (qh jY):=fS
structure Fo where
 x:Addr
 b:Addr
 dp:Addr
 dr:Addr
 da:Addr
 ds:Addr
 dg:Addr
 dw:Addr
 ex:LQ
noncomputable def Fo.six(a:Fo):LQ:=[a.x,a.dr,a.da,a.ds,a.dg,a.dw]
noncomputable def Fo.all(a:Fo):LQ:=a.six++a.ex
noncomputable def Fo.tab(a:Fo)(lo:V):List (Str×V):=[("board",.ref a.b),("partners",.ref a.dp),("rows",.ref a.dr),("parents",.ref a.da),("bases",.ref a.ds),("rings",.ref a.dg),("waiting",.ref a.dw),("longer",lo)]
def Bx(l:LQ)(H H':Hp):Prop:=∀ c o,c∉l->H c=some o->H' c=some o
def RowV(H:Hp)(l:LQ)(o:Option V):Option (LS)->Prop
 | none=>o=none
 | some r=>∃ t,o=some (.ref t)/\H t=some (.lst (r.map V.str))/\t∉l
def FoO(b:Addr)(H:Hp)(a:Fo)(lo:V):Prop:=∃ dx fs,H a.x=some (.ins b dx fs)/\fs.length<=9/\(lo=.non->fs.length<=8)/\(∀ f v,(f,v)∈a.tab lo->fs.lookup f=some v)/\∀ f,f∉fAtt->fs.lookup f=none
structure FoA(cf cw:Addr)(H0 H:Hp)(a:Fo)(ss:LS)(ns:LN)(qs:LP)(S:FS)(bs dn wt:LS)(lo:V):Prop where
 sm:L2.Same H0 H
 web:WebAt cw H0 a.b ss ns
 prt:H0 a.dp=some (.dK (prK qs))
 fr:∀ c∈a.six,H0 c=none
 nd:[a.dr,a.da,a.ds,a.dg,a.dw].Nodup
 exf:∀ c∈a.ex,H0 c=none/\c∉a.six/\∃ o,H c=some o
 obj:FoO cf H a lo
 row:∃ kvs,H a.dr=some (.dK kvs)/\kvs.length<=(dn++wt).length/\∀ s,RowV H a.all (jR kvs (.inr s:Key)) (S.rows s)
 par:∃ kvs,H a.da=some (.dK kvs)/\(∃ po:LS,kvs.length<=po.length/\po.Nodup/\∀ u∈po,u∈ss/\S.par u≠none)/\∀ s,jR kvs (.inr s:Key)=(S.par s).map V.str
 bas:∃ kvs,H a.ds=some (.dK kvs)/\kvs.length<=bs.length/\∀ s∈bs,jR kvs (.inr s:Key)=some (.str (S.bas s))
 rng:∃ xs,H a.dg=some (.lst xs)/\xs.length<=(dn++wt).length
 wai:H a.dw=some (.lst (wt.map V.str))
 evn:(dn++wt).Nodup
 evi:∀ v,v∈dn++wt↔S.rows v≠none
 evs:∀ v∈dn++wt,v∈ss
theorem RowV.mono{l:LQ}{o:Option V}{r:Option (LS)}(h:RowV H l o r){m:LQ}(k:Bx m H H')(d:∀ c∈m,c∈l):RowV H' l o r:=by
 cases r with
 | none=>show h
 | some r=>obtain⟨t,h1,b,a⟩:=h;show⟨t,h1,k _ _ (fun z=>a (d _ z)) b,a⟩
theorem Fo.sub{a:Fo}:∀ c∈a.six,c∈a.all:=fun c h=>yS _ h
theorem Bx.of{l:LQ}(s:L2.Same H H'):Bx l H H':=fun c o _ e=>s c o e
theorem Bx.trans{l:LQ}{d:Hp}(a:Bx l H H')(b:Bx l H' d):Bx l H d:=fun c o n e=>b c o n (a c o n e)
section
variable{cf cw:Addr}{H0 H H':Hp}{a:Fo}{ss:LS}{ns:LN}{qs:LP}{S S':FS}{bs dn wt:LS}{lo:V}
theorem FoA.same(h:FoA cf cw H0 H a ss ns qs S bs dn wt lo)(s:L2.Same H H'):FoA cf cw H0 H' a ss ns qs S bs dn wt lo:=by
 obtain⟨dx,fs,h1,i⟩:=h.obj;obtain⟨j,r,t,u⟩:=h.row;obtain⟨m,p,q⟩:=h.par;obtain⟨n,b,d⟩:=h.bas;obtain⟨xs,f,g⟩:=h.rng;show⟨h.sm.trans s,h.web,h.prt,h.fr,h.nd,fun c hc=>⟨(h.exf c hc).1,(h.exf c hc).2.1,(h.exf c hc).2.2.elim fun o e=>⟨o,s _ _ e⟩⟩,⟨dx,fs,s _ _ h1,i⟩,⟨j,s _ _ r,t,fun z=>(u z).mono (Bx.of (l:=[]) s) (fun c h=>by cases h)⟩,⟨m,s _ _ p,q⟩,⟨n,s _ _ b,d⟩,⟨xs,s _ _ f,g⟩,s _ _ h.wai,h.evn,h.evi,h.evs⟩
theorem FoA.six(h:FoA cf cw H0 H a ss ns qs S bs dn wt lo):∀ c∈a.six,∃ o,H c=some o:=fun c hc=>by
 obtain⟨dx,fs,h1,_⟩:=h.obj;obtain⟨g,f,_⟩:=h.row;obtain⟨i,e,_⟩:=h.par;obtain⟨j,b,_⟩:=h.bas;obtain⟨xs,d,_⟩:=h.rng;simp only[Fo.six,yz,yM,Yt] at hc;rcases hc with rfl | rfl | rfl | rfl | rfl | rfl
 .show⟨_,h1⟩
 .show⟨_,f⟩
 .show⟨_,e⟩
 .show⟨_,b⟩
 .show⟨_,d⟩
 .show⟨_,h.wai⟩
theorem FoA.new(h:FoA cf cw H0 H a ss ns qs S bs dn wt lo){c:Addr}(e:H c=none):c∉a.six:=fun z=>by
 obtain⟨o,k⟩:=h.six c z;rw[e] at k;cases k
theorem FoA.sep(h:FoA cf cw H0 H a ss ns qs S bs dn wt lo):a.six.Nodup:=by
 obtain⟨dx,fs,h1,_⟩:=h.obj;obtain⟨f,e,_⟩:=h.row;obtain⟨g,d,_⟩:=h.par;obtain⟨i,b,_⟩:=h.bas;obtain⟨xs,c,_⟩:=h.rng;show yo.mpr ⟨fun z=>?_,h.nd⟩;simp only[yz,yM,Yt] at z;rcases z with z | z | z | z | z
 .rw [z,e] at h1;cases h1
 .rw [z,d] at h1;cases h1
 .rw [z,b] at h1;cases h1
 .rw [z,c] at h1;cases h1
 .rw [z,h.wai] at h1;cases h1
theorem FoO.eq(h:FoO cf H a lo)(e:H' a.x=H a.x):FoO cf H' a lo:=by
 obtain⟨dx,fs,h1,b⟩:=h;show⟨dx,fs,e.trans h1,b⟩
theorem Bx.upd{l:LQ}{c:Addr}(k:Bx l H H')(hc:c∈l):Bx l H (upd H' c o):=fun d u n e=>by
 rw[qf (fun z=>n (by rw[z];show hc))];show k d u n e
noncomputable def Fo.add(a:Fo)(c:Addr):Fo:={ a with ex:=c::a.ex }
theorem FoA.add(h:FoA cf cw H0 H a ss ns qs S bs dn wt lo){c:Addr}(e:H c=none):FoA cf cw H0 (upd H c o) (a.add c) ss ns qs S bs dn wt lo:=by
 have g:=h.same (qC (Sr H) (o:=o) e);obtain⟨f,q,w,x⟩:=g.row;obtain⟨n,v,_,A⟩:=h.row
 have s:n=f:=by
  have:=qC (Sr H) (o:=o) e _ _ v;rw[q] at this;show(HO.dK.inj (ym this)).symm
 subst s;show⟨g.sm,g.web,g.prt,g.fr,g.nd,fun d hd=>?_,g.obj,⟨n,q,w,fun z=>?_⟩,g.par,g.bas,g.rng,g.wai,g.evn,g.evi,g.evs⟩
 .rcases yz.mp hd with rfl | hd
  .show⟨h.sm.free e,h.new e,_,qb⟩
  .show g.exf d hd
 .have b:=x z;have j:=A z
  cases i:S.rows z with
  | none=>rw[i] at b;show b
  | some r =>
   rw[i] at b j;obtain⟨t,f,u,p⟩:=b;obtain⟨t',l,m,_⟩:=j;rw[f] at l;cases l;show⟨t,f,u,fun y=>?_⟩;rcases yx.mp y with y | y
   .show p (yS _ y)
   .rcases yz.mp y with y | y
    .rw [y,e] at m;cases m
    .show p (yR _ y)
theorem FoA.updE(h:FoA cf cw H0 H a ss ns qs S bs dn wt lo){c:Addr}(hc:c∈a.ex):FoA cf cw H0 (upd H c o) a ss ns qs S bs dn wt lo:=by
 obtain⟨l,p,_⟩:=h.exf c hc;have ne:∀{d:Addr},d∈a.six->upd H c o d=H d:=fun b=>qf fun z=>p (by rw[<- z];show b);obtain⟨q,w,x,A⟩:=h.row;obtain⟨r,t,v⟩:=h.par;obtain⟨s,f,g⟩:=h.bas;obtain⟨xs,i,j⟩:=h.rng;show⟨qaO h.sm l,h.web,h.prt,h.fr,h.nd,fun d b=>⟨(h.exf d b).1,(h.exf d b).2.1,by by_cases z:d=c;show⟨_,by rw[z,qb]⟩;rw[qf z];show(h.exf d b).2.2⟩,h.obj.eq (ne (by simp[Fo.six])),⟨q,(ne (by simp[Fo.six])).trans w,x,fun z=>(A z).mono (m:=[c]) (fun d u n e=>by rw[qf (fun y=>n (by rw[y];simp))];show e) fun d b=>by rw[yv.mp b];show yR _ hc⟩,⟨r,(ne (by simp[Fo.six])).trans t,v⟩,⟨s,(ne (by simp[Fo.six])).trans f,g⟩,⟨xs,(ne (by simp[Fo.six])).trans i,j⟩,(ne (by simp[Fo.six])).trans h.wai,h.evn,h.evi,h.evs⟩
theorem FoA.drop(h:FoA cf cw H0 H a ss ns qs S bs dn wt lo){l:LQ}(f:∀ c∈l,c∈a.ex):FoA cf cw H0 H { a with ex:=l } ss ns qs S bs dn wt lo:=by
 obtain⟨d,j,m,n⟩:=h.row;show⟨h.sm,h.web,h.prt,h.fr,h.nd,fun c hc=>h.exf c (f c hc),h.obj,⟨d,j,m,fun z=>?_⟩,h.par,h.bas,h.rng,h.wai,h.evn,h.evi,h.evs⟩;have b:=n z
 cases e:S.rows z with
 | none=>rw[e] at b;show b
 | some r =>
  rw[e] at b;obtain⟨t,d,g,i⟩:=b;show⟨t,d,g,fun y=>i ((yx.mp y).elim (fun z=>yS _ z) fun z=>yR _ (f _ z))⟩
theorem FoA.newA(h:FoA cf cw H0 H a ss ns qs S bs dn wt lo){c:Addr}(e:H c=none):c∉a.all:=fun z=>by
 rcases yx.mp z with z | z
 .show h.new e z
 .obtain⟨o,k⟩:=(h.exf c z).2.2;rw[e] at k;cases k
theorem FoA.few(h:FoA cf cw H0 H a ss ns qs S bs dn wt lo):(dn++wt).length<=ss.length:=jk h.evn h.evs
end
noncomputable def FS.setRow(S:FS)(p:Str)(r:LS):FS:=⟨fun s=>if s=p then some r else S.rows s,S.par,S.bas⟩
inductive spRe(cc:Nat->Addr)(cw:Addr)(vs:List V)(H:Hp)(Q:VK)(E:XK):Prop|mk (H0:Hp) (a:Fo) (ss:LS) (ns:LN) (qs:LP) (S:FS) (bs dn wt:LS) (lo:V) (p:Str) (t:Addr) (r:LS) (_:vs=[.ref a.x,.str p,.ref t]) (_:FoA (cc 9) cw H0 H a ss ns qs S bs dn wt lo) (_:ss.length<=14) (_:H t=some (.lst (r.map V.str))) (_:t∉a.all) (_:p∈ss) (_:S.rows p=none) (_:∀ H',FoA (cc 9) cw H0 H' a ss ns qs (S.setRow p r) bs dn (wt++[p]) lo->Bx a.six H H'->(∀ o,H a.dg=some o->H' a.dg=some o)->Q .non H')
inductive spBd(cc:Nat->Addr)(cw:Addr)(vs:List V)(H:Hp)(Q:VK)(E:XK):Prop|mk (H0:Hp) (a:Fo) (ss:LS) (ns:LN) (qs:LP) (S:FS) (dn wt:LS) (lo:V) (p:Str) (r l:LS) (A:Str->Str->Prop) (_:vs=[.ref a.x,.str p]) (_:FoA (cc 9) cw H0 H a ss ns qs S ss dn wt lo) (_:ss.length<=14) (_:FI A (pt qs) S) (_:S.rows p=some r) (_:Ch (pt qs) S (S.bas p) l) (_:l.length<=14) (_:∀(t:Addr) (H':Hp),L2.Same H H'->H t=none->H' t=some (.lst (l.map V.str))->Q (.ref t) H')
section
variable{P:Program}{w:World}{K:W.Frag}{mg:Str->Option Value}{base:Heap}{cc:Nat->Addr}{cw:Addr}{H0 H:Hp}{a:Fo}{ss:LS}{ns:LN}{qs:LP}{S:FS}{bs dn wt:LS}{lo:V}
theorem FoO.rd{Q:VK}{f:Str}{v:V}(h:FoO (cc 9) H a lo)(T:Txt K mg cc cw)(i:Nat)(e:(a.tab lo)[i]?=some (f,v))(q:Q v H):FldR K f (.ref a.x) H Q:=by
 obtain⟨dx,fs,h1,_,_,b,_⟩:=h;show⟨a.x,cc 9,dx,fs,v,rfl,h1,T.fcl,T.fa f ?_,b f v (ye e),q⟩;have:((a.tab lo).map Prod.fst)[i]?=some f:=by rw[yd,e];rfl
 show ye (l:=fAtt) (i:=i) this
theorem ok_re(F:Fun K "reach" "Forest.reach" jY f fd)(T:Txt K mg cc cw):FnOk P w K mg base CX0 1 f fd ["self","place","row"] (spRe cc cw):=by
 show F.ok uw fun _ _ _ _ H vs Q E R h=>?_
 .obtain⟨H0,a,ss,ns,qs,S,bs,dn,wt,lo,p,t,r,rfl,h,O,U,d,m,l,q⟩:=h;have W:=ze R;have b:=h.few;have j:p∉dn++wt:=fun z=>(h.evi p).mp z l;show⟨_,(qc (jw (pv 2) (jI (qB (K:=K) rfl (pv 0) rfl) (pv 1) (jJ W)))
 (qe (qQ (qby (K:=K) rfl yV Yi Yj je (qB (K:=K) rfl (pv 0) rfl) (qa (pv 1) qd))))),?_⟩
  ext;obtain⟨⟨Z,n2,n3,n4,n5⟩,⟨n6,n7,B,C⟩,⟨aa,ac,u⟩,⟨ad,A⟩,g⟩:=(by simpa [Fo.six] using h.sep:(¬a.x=a.dr/\¬a.x=a.da/\¬a.x=a.ds/\¬a.x=a.dg/\¬a.x=a.dw)/\(¬a.dr=a.da/\¬a.dr=a.ds/\¬a.dr=a.dg/\¬a.dr=a.dw)/\(¬a.da=a.ds/\¬a.da=a.dg/\¬a.da=a.dw)/\(¬a.ds=a.dg/\¬a.ds=a.dw)/\¬a.dg=a.dw);obtain⟨i,r1,r2,r3⟩:=h.row;obtain⟨Y,p1,p2,p3⟩:=h.par;obtain⟨ks,I,J,L⟩:=h.bas;obtain⟨xs,M,N⟩:=h.rng;show .inl (h.obj.rd T 2 rfl ?_);apply .inr ⟨a.dr,_,rfl,DPut.k (k:=Sum.inr p) r1 (by rw[YA];lk),?_⟩;have D:FoO (cc 9) (upd H a.dr (.dK (jW i (Sum.inr p) (.ref t)))) a lo:=h.obj.eq (qf Z);have G:upd H a.dr (.dK (jW i (Sum.inr p) (.ref t))) a.dw=some (.lst (wt.map V.str)):=by rw[qf (Yd C)];show h.wai
  apply .inl (D.rd T 6 rfl ?_);show⟨.inl ⟨rfl,_,.of G⟩,?_⟩;apply⟨a.dw,_,_,rfl,rfl,G,by rw[ya];show qi (by rw[yt] at b;lk),?_⟩;have s:∀{c:Addr} {o o':HO},c∉a.six->upd (upd H a.dr o) a.dw o' c=H c:=fun hc=>by rw[qf (fun z=>hc (by rw[z];simp[Fo.six])),qf (fun z=>hc (by rw[z];simp[Fo.six]))]
  have bx:Bx a.six H (upd (upd H a.dr (.dK (jW i (Sum.inr p) (.ref t)))) a.dw (.lst (wt.map V.str++[.str p]))):=fun c o n e=>by rw[s n];show e
  show q _ ⟨qaO (qaO h.sm (h.fr _ (by simp[Fo.six]))) (h.fr _ (by simp[Fo.six])),h.web,h.prt,h.fr,h.nd,fun c hc=>⟨(h.exf c hc).1,(h.exf c hc).2.1,(h.exf c hc).2.2.elim fun o e=>⟨o,bx _ _ (h.exf c hc).2.1 e⟩⟩,D.eq (qf n5),⟨_,by rw[qf C,qb],?_,fun z=>?_⟩,⟨Y,by rw[qf u,qf (Yd n6)];show p1,p2,p3⟩,⟨ks,by rw[qf A,qf (Yd n7)];show I,J,L⟩,⟨xs,by rw[qf g,qf (Yd B)];show M,?_⟩,by rw[qb,yC];rfl,?_,fun v=>?_,fun v hv=>?_⟩ bx fun o e=>by(rw[qf g,qf (Yd B)];show e)
  .have:=jh i (Sum.inr p:Key) (.ref t);rw[<- yW,yt (bs:=[p])];show _<=_+1;lk
  .unfold FS.setRow;dsimp only;rw[zC];by_cases e:z=p
   .subst e;rw[yG rfl,yG rfl];show⟨t,rfl,bx _ _ (fun y=>d (Fo.sub _ y)) U,d⟩
   .rw [yE (fun y=>e (xj y)),yE e];show(r3 z).mono bx Fo.sub
  .rw [<- yW,yt (bs:=[p])];show kB N
  .rw [<- yW];show yX.mpr ⟨h.evn,XJ _ _,fun x s y X e=>j (by rw[<- yv.mp X,<- e];show s)⟩
  .rw [<- yW,yx,yv,h.evi];unfold FS.setRow;dsimp only;by_cases e:v=p
   .subst e;rw[yG rfl];show⟨(fun _ z=>by cases z),fun _=>.inr rfl⟩
   .rw [yE e];show⟨fun z=>z.resolve_right e,.inl⟩
  .rw [<- yW] at hv;rcases yx.mp hv with z | z
   .show h.evs v z
   .rw [yv.mp z];show m
end
theorem Kp:FnScope ["self","place","bases","below"] ["self","place"] (qh qP):=fS
theorem atI_last{xs:LS}{c:Str}:atI ((xs++[c]).map V.str) (-1)=some (.str c):=by
 have e:ixN ((xs++[c]).map V.str).length (-1)=some xs.length:=by
  unfold ixN;rw[yE (by lk),yG (by rw[ya,yt];simp;lk)]
  congr 1
  rw[ya,yt];simp only[yy,Ym];lk
 unfold atI;rw[e];show((xs++[c]).map V.str)[xs.length]?=_;rw[yd,yB (yh _),XY];rfl
theorem Ch.cases'{f:Str->Option Str}{t:LS}(h:Ch f S b (b::t)):(f b=none/\t=[])\/∃ q z,f b=some q/\S.par q=some z/\Ch f S (S.bas z) t:=by
 generalize e:b::t=l at h
 cases h with
 | root h=>cases e;show .inl ⟨h,rfl⟩
 | step h1 h2 h3=>cases e;show .inr ⟨_,_,h1,h2,h3⟩
theorem in_prK{Q:VK}(a:H d=some (.dK (prK qs)))(q:Q (.bl (pt qs s).isSome) H):qdC K false (.str s) (.ref d) H Q:=by
 show .inr (.inl ⟨d,_,rfl,DGet.k (k:=Sum.inr s) a,?_⟩);rw[jU,yE (by decide),Xr];show q
theorem qd4{v:V}{Q:VK}(a:H d=some (.dK kvs))(e:jR kvs (.inr s:Key)=some v)(q:Q v H):qfx K (.ref d) (.str s) H Q:=.inr ⟨d,v,rfl,by rw[<- e];show DGet.k (k:=Sum.inr s) a,q⟩
theorem ok_bd(F:Fun K "bases_down_from" "Forest.bases_down_from" qP f fd)(T:Txt K mg cc cw):FnOk P w K mg base CX0 1 f fd ["self","place"] (spBd cc cw):=by
 show F.ok Kp fun _ _ _ _ H vs Q E hr h=>?_
 .obtain⟨H0,a,ss,ns,qs,S,dn,wt,lo,p,r,l,B,rfl,h,ad,I,hp,y,aa,q⟩:=h;have n:=ze hr;show⟨_,(qc (qm (i:=2) Kp.nd rfl (yP rfl) (jg (qa (qt (qu (K:=K) rfl n) (qB (K:=K) rfl (pv 0) rfl) (pv 1) (fun _ _=>rfl)) qd)))
 (qc (qaV yZ (qj (zt (K:=K) rfl n) (qt (qu (K:=K) rfl n) (pv 2) (qbF qas qg) (fun _ _=>rfl)) (qB (K:=K) rfl (pv 0) rfl) (by with_unfolding_all rfl))
 (qc (qm (i:=3) Kp.nd rfl (yP rfl) (qt (qu (K:=K) rfl n) (qB (K:=K) rfl (pv 0) rfl) (qt (qu (K:=K) rfl n) (qB (K:=K) rfl (pv 0) rfl) (qt (qu (K:=K) rfl n) (pv 2) (qbF qas qg) (fun _ _=>rfl)) (fun _ _=>rfl)) (fun _ _=>rfl)))
 (qe (qQ (qby (K:=K) rfl yV Yi Yj je (pv 2) (qa (qt (qu (K:=K) rfl n) (qB (K:=K) rfl (pv 0) rfl) (pv 3) (fun _ _=>rfl)) qd))))))
 (qe (qo (pv 2))))),?_⟩
  have u:∀{v:Str} {r:LS},S.rows v=some r->v∈ss:=fun e=>h.evs _ ((h.evi _).mpr (by rw[e];show fun z=>by cases z));obtain⟨ks,b1,b2,b3⟩:=h.bas;apply .inl (h.obj.rd T 4 rfl ?_);apply qd4 b1 (b3 p (u hp)) ?_;apply⟨by show 1<=sizeLine;decide,fun bl j=>?_⟩;have s1:=qC (Sr H) (o:=.lst [.str (S.bas p)]) j;have e1:upd H bl (.lst [.str (S.bas p)]) bl=some (.lst (([]++[S.bas p]).map V.str)):=qb;generalize upd H bl (.lst [.str (S.bas p)])=H1 at s1 e1;ext;obtain⟨W,g⟩:∃ W:Nat->L2.St->Hp->Prop,W=fun m σ J=>∃(l1 l2:LS) (c:Str) (y3:Option V),l=l1++c::l2/\σ=[some (.ref a.x),some (.str p),some (.ref bl),y3]/\L2.Same H J/\J bl=some (.lst ((l1++[c]).map V.str))/\m=l2.length:=⟨_,rfl⟩;obtain⟨t0,R⟩:=y.ne;show⟨W,⟨t0.length,by rw[g];show⟨[],t0,_,_,R,rfl,s1,e1,rfl⟩⟩,fun m σ J hW=>?_⟩;rw[g] at hW;obtain⟨l1,l2,c,y3,M,rfl,sJ,s,hm⟩:=hW;obtain⟨rc,_,Y,U,A,_⟩:=y.up I hp rfl M;have d:=h.same sJ;have D:=d.sm _ _ h.prt;apply⟨1,rfl,?_⟩;show .inl (zX s (v:=.str c) atI_last ?_);apply .inl (d.obj.rd T 1 rfl ?_);show in_prK D ?_;rcases A.cases' with⟨C,rfl⟩ | ⟨q',z,C,G,X⟩
  .rw [C];show⟨_,rfl,qJ (fun h=>by cases h) fun _=>?_⟩;apply q bl J sJ j (by rw[M];show s)
  .rw [C];show⟨_,rfl,zA ⟨fun L H'=>∃ m',m'<m/\W m' L H',fun L H' z=>z,?_⟩⟩;obtain⟨_,z',rz,b,Z,_⟩:=I.dwn c rc q' Y U C;rw[G] at b;cases b;obtain⟨ka,p1,p2,p3⟩:=d.par;obtain⟨ae,N,ac,O⟩:=d.bas;apply .inl (d.obj.rd T 3 rfl ?_);apply .inl (d.obj.rd T 1 rfl ?_);apply⟨1,rfl,?_⟩;show .inl (zX s (v:=.str c) atI_last ?_);show qd4 D (by rw[jU,C];rfl) ?_;show qd4 p1 (by rw[p3,G];rfl) ?_;apply⟨.inl ⟨rfl,_,.of s⟩,?_⟩;apply .inl (d.obj.rd T 4 rfl ?_);apply qd4 N (O z (u Z)) ?_;apply⟨bl,_,_,rfl,rfl,s,by rw[ya];show qi (by have:=congrArg List.length M;rw[yt,yy] at this;rw[yt];simp only[yy,Ym];lk),?_⟩;obtain⟨t1,t⟩:=X.ne;rw[g];show⟨t1.length,by rw[hm,t];simp,l1++[c],t1,S.bas z,_,by rw[M,t];simp,rfl,qaO sJ j,by rw[qb,yC (l₁:=l1++[c])];rfl,rfl⟩
theorem Km:FnScope ["self","one","other","bases","side","base","place","row"] ["self","one","other","bases"] (qh jc):=fS
structure RR(f:Str->Option Str)(S S':FS)(v w:Str)(cs:LS):Prop where
 par:S'.par=S.par
 bas:S'.bas=S.bas
 old:∀ u r,S.rows u=some r->S'.rows u=some r
 new:∀ u r,S'.rows u=some r->S.rows u=some r\/∃ c∈cs,f c=some u/\NewRow S v w u r
 all:∀ c∈cs,∀ q,f c=some q->∃ r,S'.rows q=some r
inductive spRr(cc:Nat->Addr)(cw:Addr)(vs:List V)(H:Hp)(Q:VK)(E:XK):Prop|mk (H0:Hp) (a:Fo) (ss:LS) (ns:LN) (qs:LP) (S:FS) (dn wt:LS) (lo:V) (v w:Str) (lb:Addr) (cs rv rw:LS) (_:vs=[.ref a.x,.str v,.str w,.ref lb]) (_:FoA (cc 9) cw H0 H a ss ns qs S ss dn wt lo) (_:ss.length<=14) (_:H lb=some (.lst (cs.map V.str))) (_:lb∉a.six) (_:S.rows v=some rv) (_:S.rows w=some rw) (_:rv.length<=14) (_:rw.length<=14) (_:rv.Nodup) (_:cs.Nodup) (_:cs.length<=14) (_:(qv qs).Nodup) (_:(∀ c∈cs,∃ q rz t,pt qs c=some q/\S.rows q=none/\q∈ss/\rv=rz++q::t)) (_:∀(t:Addr) (sd more:LS) (H':Hp) (S':FS),FoA (cc 9) cw H0 H' (a.add t) ss ns qs S' ss dn (wt++more) lo->Bx a.six H H'->H t=none->H' t=some (.lst (sd.map V.str))->(∀ u,u∈sd↔∃ c∈cs,u=c\/pt qs c=some u)->sd.length=2*cs.length->more.length=cs.length->RR (pt qs) S S' v w cs->(∀ o,H a.dg=some o->H' a.dg=some o)->Q (.ref t) H')
theorem qcL{t:LS}(a:(rz++q::t).Nodup):(rz++q::t).idxOf q=rz.length:=by
 show qdK a (by rw[yB (yh _),XY];rfl)
theorem qec{a b:Addr}{Q:VK}(c:G a=some (.lst xs))(d:G b=some (.lst ys))(hl:xs.length+ys.length<=1000)(q:∀ p,G p=none->Q (.ref p) (upd G p (.lst (xs++ys)))):qdh K (.ref a) (.ref b) G Q:=.inl ⟨a,b,_,_,rfl,rfl,c,d,yi hl (by decide),q⟩
theorem ok_rr(F:Fun K "reach_round" "Forest.reach_round" jc f fd)(T:Txt K mg cc cw)(Kt:MethOk P w K mg base CX0 1 (cc 9) "reach" ["self","place","row"] (spRe cc cw)):FnOk P w K mg base CX0 2 f fd ["self","one","other","bases"] (spRr cc cw):=by
 show F.ok Km fun _ _ _ _ H vs Q E hr h=>?_
 .obtain⟨H0,a,ss,ns,qs,S,dn,wt,lo,v,w,lb,R,rv,g,rfl,h,ao,I,ay,hv,hw,ba,bh,aj,av,be,ai,aw,q⟩:=h;have hu:=ze hr;show⟨_,(qc (qm (i:=4) Km.nd rfl (yP rfl) (jg qd))
 (qc (jo yZ rfl (qL (K:=K) rfl (pv 3)) (qk (i:=5) Km.nd rfl (yP rfl))
 (qc (qm (i:=6) Km.nd rfl (yP rfl) (qt (qu (K:=K) rfl hu) (qB (K:=K) rfl (pv 0) rfl) (pv 5) (fun _ _=>rfl)))
 (qc (qm (i:=7) Km.nd rfl (yP rfl) (qt (qu (K:=K) rfl hu) (qB (K:=K) rfl (pv 0) rfl) (pv 1) (fun _ _=>rfl)))
 (qc (qQ (qF Kt (hmR hr) (pv 0) (qa (pv 6) (qa (qE (j6 (K:=K) rfl) (qt (qu (K:=K) rfl hu) (qB (K:=K) rfl (pv 0) rfl) (pv 2) (fun _ _=>rfl)) (qdG (K:=K) rfl (jt (qdj (K:=K) rfl) (pv 7) (jr (qby (K:=K) rfl yV Xa XM (qcH (K:=K) rfl) (pv 7) (qa (pv 6) qd))) j4) (jr (qbF qas qg)))) qd))))
 (qe (qQ (qby (K:=K) rfl yV PySem.F.slot_list_extend PySem.F.type_list_extend qbA (pv 4) (qa (jg (qa (pv 5) (qa (pv 6) qd))) qd))))))))
 (qe (qo (pv 4))))),?_⟩
  apply⟨by show 0<=sizeLine;decide,fun l s=>?_⟩;have s1:=qC (Sr H) (o:=.lst []) s;have h1:=h.add (o:=.lst []) s;have X:upd H l (.lst []) l=some (.lst (([]:LS).map V.str)):=qb;have bi:lb≠l:=fun z=>by rw[z,s] at I;cases I
  generalize upd H l (.lst [])=H1 at s1 h1 X;ext;obtain⟨LI,B⟩:∃ LI:Nat->L2.St->Hp->Prop,LI=fun i σ J=>∃(S':FS) (b G:LS) (y5 y6 y7:Option V),σ=[some (.ref a.x),some (.str v),some (.str w),some (.ref lb),some (.ref l),y5,y6,y7]/\FoA (cc 9) cw H0 J (a.add l) ss ns qs S' ss dn (wt++b) lo/\Bx a.six H J/\J l=some (.lst (G.map V.str))/\(∀ u,u∈G↔∃ c∈R.take i,u=c\/pt qs c=some u)/\G.length=2*i/\b.length=i/\RR (pt qs) S S' v w (R.take i)/\∀ o,H a.dg=some o->J a.dg=some o:=⟨_,rfl⟩;show .inl ⟨⟨_,.of (s1 _ _ I)⟩,qN (xs:=R.map V.str) LI (by rw[B];show⟨S,[],[],_,_,_,rfl,by rw[Yb];show h1,Bx.of s1,X,fun u=>by simp,rfl,rfl,⟨rfl,rfl,fun _ _ e=>e,fun _ _ e=>.inl e,fun c hc=>by simp at hc⟩,fun o e=>s1 _ _ e⟩) (fun i σ J _ O=>?_) (fun i y σ J hy O=>?_) fun σ J O=>?_⟩
  .rw [B] at O;obtain⟨S',b,G,y5,y6,y7,rfl,A,bx,_⟩:=O;show .of (bx _ _ ay I)
  .rw [B] at O;obtain⟨S',b,G,y5,y6,y7,rfl,A,bx,eJ,M,m,L,D,U⟩:=O;rw[yd] at hy;obtain⟨c,hc,rfl⟩:=yn.mp hy;have au:=ye hc;obtain⟨z,rz,t,hz,ak,bd,p⟩:=aw c au;have bf:i<R.length:=(yc.mp hc).1;have N:R.take (i+1)=R.take i++[c]:=by rw[yH,hc];rfl
   have az:=A.sm _ _ h.prt;obtain⟨kr,r1,r2,r3⟩:=A.row
   have rowOf:∀{u:Str} {r:LS},S.rows u=some r->∃ t,jR kr (.inr u:Key)=some (.ref t)/\J t=some (.lst (r.map V.str)):=fun{u r} e=>by
    have:=r3 u;rw[D.old u r e] at this;obtain⟨t,k1,k2,_⟩:=this;show⟨t,k1,k2⟩
   obtain⟨tv,kv,ev⟩:=rowOf hv;obtain⟨tw,kw,ew⟩:=rowOf hw;apply .inl (A.obj.rd T 1 rfl ?_);apply qd4 az (by rw[jU,hz];rfl) ?_;apply .inl (A.obj.rd T 2 rfl ?_);apply qd4 r1 kv ?_;ext;obtain⟨dx,fs,bb,_,_,_,bc⟩:=id A.obj;show⟨a.x,dx,fs,rfl,bb,bc _ (by room),?_⟩;apply .inl (A.obj.rd T 2 rfl ?_);apply qd4 r1 kw ?_;apply qfL ?_;apply⟨.inl ⟨rfl,_,.of ev⟩,?_⟩;apply⟨tv,rv,z,rfl,rfl,.of ev,by rw[p];simp,_,rfl,?_⟩;rw[p] at aj;have an:rv.idxOf z=rz.length:=by rw[p];show qcL aj
   rw[an];apply .inl ⟨tv,_,rfl,.of ev,fun c1 aq=>?_⟩;have ae:qct (rv.map V.str) (some ((rz.length:Nat):Int)) none=(z::t).map V.str:=by rw[qaC,p,yC,List.drop_left' (by simp)]
   rw[ae];have t1:=qC (Sr J) (o:=.lst ((z::t).map V.str)) aq;have Z:upd J c1 (.lst ((z::t).map V.str)) c1=some (.lst ((z::t).map V.str)):=qb;generalize upd J c1 (.lst ((z::t).map V.str))=J1 at t1 Z;apply⟨1,rfl,?_⟩;show⟨_,rfl,rfl,c1,_,rfl,.of Z,fun c2 ar=>?_⟩;have t2:=qC t1 (o:=.lst ((z::t).map V.str).reverse) ar;have aa:upd J1 c2 (.lst ((z::t).map V.str).reverse) c2=some (.lst ((z::t).reverse.map V.str)):=by rw[qb,kQ]
   generalize upd J1 c2 (.lst ((z::t).map V.str).reverse)=J2 at t2 aa;have bg:(z::t).length<=14:=by rw[p,yt] at ba;lk
   show qec (t2 _ _ ew) aa (by rw[ya,ya,Yl];lk) fun c3 af=>?_;have ap:=A.same t2;have n3:=ap.newA af;have t3:=qC t2 (o:=.lst (g.map V.str++(z::t).reverse.map V.str)) af;have ac:upd J2 c3 (.lst (g.map V.str++(z::t).reverse.map V.str)) c3=some (.lst ((g++(z::t).reverse).map V.str)):=by rw[qb,yC]
   generalize upd J2 c3 (.lst (g.map V.str++(z::t).reverse.map V.str))=J3 at t3 ac
   have ag:c∉R.take i:=fun y=>by
    obtain⟨j,hj⟩:=yf y;have ax:=(yc.mp hj).1;rw[yK] at ax;rw[xJ,yG (by lk)] at hj;have:=qG av hj hc;lk
   have al:S'.rows z=none:=by
    cases e:S'.rows z with
    | none=>rfl
    | some r =>
     exfalso;rcases D.new z r e with y | ⟨c',C,y,_⟩
     .rw [ak] at y;cases y
     .have X:=(qdQ ai).mp y;rw[(qdQ ai).mp hz] at X;rw[<- ym X] at C;show ag C
   apply⟨H0,a.add l,ss,ns,qs,S',ss,dn,wt++b,lo,z,c3,g++(z::t).reverse,rfl,A.same t3,ao,ac,n3,bd,al,fun J4 h4 W ah=>?_⟩;have am:l∉a.six:=h.new s;have Y:J4 l=some (.lst (G.map V.str)):=W _ _ am (t3 _ _ eJ);apply⟨.inl ⟨rfl,_,.of Y⟩,?_⟩;apply⟨by show 2<=sizeLine;decide,fun c5 as=>?_⟩;have t5:=qC (Sr J4) (o:=.lst [.str c,.str z]) as;have ad:upd J4 c5 (.lst [.str c,.str z]) c5=some (.lst [.str c,.str z]):=qb;generalize upd J4 c5 (.lst [.str c,.str z])=J5 at t5 ad;have h5:=h4.same t5;apply⟨l,c5,_,_,rfl,rfl,t5 _ _ Y,ad,by rw[ya,YA];show _+2<=_;lk,?_⟩;have h6:=h5.updE (c:=l) (o:=.lst (G.map V.str++[.str c,.str z])) yY;rw[B];show⟨S'.setRow z (g++(z::t).reverse),b++[z],G++[c,z],_,_,_,rfl,by rw[<- yW wt];show h6,?_,by rw[qb,yC];rfl,fun u=>?_,by rw[yt,m];show _+2=_;lk,by rw[yt,L];rfl,⟨D.par,D.bas,fun u r e=>?_,fun u r e=>?_,fun c' C q' e=>?_⟩,fun o e=>?_⟩
   .show fun d o n e=>by
     have ne:d≠l:=fun y=>by rw[y,s] at e;cases e
     rw[qf ne];show t5 _ _ (W _ _ n (t3 _ _ (bx _ _ n e)))
   .rw [N,yx,M];simp only[yx,yz,yM,Yt];constructor
    .rintro (⟨c',h1,h2⟩ | rfl | rfl)
     .show⟨c',.inl h1,h2⟩
     .show⟨u,.inr rfl,.inl rfl⟩
     .show⟨c,.inr rfl,.inr hz⟩
    .rintro ⟨c',h1 | rfl,h2⟩
     .show .inl ⟨c',h1,h2⟩
     .rcases h2 with h2 | h2
      .show .inr (.inl h2)
      .rw [hz] at h2;show .inr (.inr (ym h2).symm)
   .show(if u=z then _ else S'.rows u)=_;rw[yE (fun y=>by rw[y,ak] at e;cases e)];show D.old u r e
   .have e':(if u=z then some (g++(z::t).reverse) else S'.rows u)=some r:=e;by_cases y:u=z
    .subst y;rw[yG rfl] at e';show .inr ⟨c,by rw[N];simp,hz,rv,g,rz,t,hv,hw,p,(ym e').symm⟩
    .rw [yE y] at e';rcases D.new u r e' with x | ⟨c',h1,h2⟩
     .show .inl x
     .show .inr ⟨c',by rw[N];show yS _ h1,h2⟩
   .show ∃ r,(if q'=z then some (g++(z::t).reverse) else S'.rows q')=some r;by_cases y:q'=z
    .rw [yG y];show⟨_,rfl⟩
    .rw [yE y];rw[N] at C;rcases yx.mp C with x | x
     .show D.all c' x q' e
     .rw [yv.mp x,hz] at e;show absurd (ym e).symm y
   .have ne:a.dg≠l:=fun y=>am (by rw[<- y];simp[Fo.six]);rw[qf ne];show t5 _ _ (ah o (t3 _ _ (U o e)))
  .rw [B] at O;obtain⟨S',b,G,y5,y6,y7,rfl,A,bx,eJ,M,m,L,D,U⟩:=O;rw[ya] at m L;rw[ya,yO] at M D;apply q l G b J S' A bx s eJ M m L D U
theorem KN:FnScope ["self","ring","meeting","within","place"] ["self","ring","meeting"] (qh jN):=fS
noncomputable def FS.setBas(S:FS)(l:LS)(m:Str):FS:=⟨S.rows,S.par,fun u=>if u∈l then m else S.bas u⟩
noncomputable def wnL(S:FS)(ss a:LS)(m:Str):LS:=ss.filter fun u=>decide (S.bas u∈a++[m])
inductive spFd(cc:Nat->Addr)(cw:Addr)(vs:List V)(H:Hp)(Q:VK)(E:XK):Prop|mk (H0:Hp) (a:Fo) (ss:LS) (ns:LN) (qs:LP) (S:FS) (dn wt:LS) (lo:V) (lr:Addr) (rg:LS) (m:Str) (xs:List V) (_:vs=[.ref a.x,.ref lr,.str m]) (_:FoA (cc 9) cw H0 H a ss ns qs S ss dn wt lo) (_:ss.length<=14) (_:H lr=some (.lst (rg.map V.str))) (_:lr∉a.six) (_:rg.length<=100) (_:H a.dg=some (.lst xs)) (_:xs.length<(dn++wt).length) (_:∀ H',FoA (cc 9) cw H0 H' a ss ns qs (S.setBas (wnL S ss rg m) m) ss dn wt lo->Bx a.six H H'->Q .non H')
theorem put_len{k:Key}{v u:V}(h:jR kvs k=some u):(jW kvs k v).length=kvs.length:=by
 unfold jW;rw[zW,h];show ya _
theorem qbR{n:Addr}{Q:VK}(a:H n=some (.lst (ss.map V.str)))(q:Q (.bl (decide (z∈ss))) H):qdC K false (.str z) (.ref n) H Q:=
 .inl ⟨n,_,rfl,.inl (.of a),rfl,Ys.mpr fun x b=>by(obtain⟨s,_,rfl⟩:=YH.mp b;rfl),by rw[yE (by decide),qbN];show q⟩
theorem FoA.setB{a:Fo}{ks:List (Key×V)}{m:Str}(h:FoA (cc 9) cw H0 H a ss ns qs (S.setBas l m) ss dn wt lo)(s:H a.ds=some (.dK ks))(hz:z∈ss):FoA (cc 9) cw H0 (upd H a.ds (.dK (jW ks (Sum.inr z) (.str m)))) a ss ns qs (S.setBas (l++[z]) m) ss dn wt lo/\ks.length<=ss.length:=by
 obtain⟨w,J,K,L⟩:=h.row;obtain⟨v,F,G,I⟩:=h.par;obtain⟨k,g,i,j⟩:=h.bas;obtain⟨xs,q,r⟩:=h.rng;rw[s] at g;cases g;obtain⟨⟨M,N,D,O,P⟩,⟨R,E,T,U⟩,⟨b,A,B⟩,⟨d,f⟩,C⟩:=(by simpa [Fo.six] using h.sep:(¬a.x=a.dr/\¬a.x=a.da/\¬a.x=a.ds/\¬a.x=a.dg/\¬a.x=a.dw)/\(¬a.dr=a.da/\¬a.dr=a.ds/\¬a.dr=a.dg/\¬a.dr=a.dw)/\(¬a.da=a.ds/\¬a.da=a.dg/\¬a.da=a.dw)/\(¬a.ds=a.dg/\¬a.ds=a.dw)/\¬a.dg=a.dw);have bx:Bx a.six H (upd H a.ds (.dK (jW ks (Sum.inr z) (.str m)))):=fun c o n e=>by rw[qf (fun y=>n (by rw[y];simp[Fo.six]))];show e
 show⟨⟨qaO h.sm (h.fr _ (by simp[Fo.six])),h.web,h.prt,h.fr,h.nd,fun c hc=>⟨(h.exf c hc).1,(h.exf c hc).2.1,(h.exf c hc).2.2.elim fun o e=>⟨o,bx _ _ (h.exf c hc).2.1 e⟩⟩,h.obj.eq (qf D),⟨w,by rw[qf E];show J,K,fun y=>(L y).mono bx Fo.sub⟩,⟨v,by rw[qf b];show F,G,I⟩,⟨_,qb,by rw[put_len (j z hz)];show i,fun u t=>?_⟩,⟨xs,by rw[qf (Yd d)];show q,r⟩,by rw[qf (Yd f)];show h.wai,h.evn,h.evi,h.evs⟩,i⟩;rw[zC,j u t];show(if _ then _ else _)=some (V.str (if u∈l++[z] then m else S.bas u));have p:(S.setBas l m).bas u=if u∈l then m else S.bas u:=rfl;rw[p];by_cases e:u=z
 .subst e;rw[yG rfl,yG (by simp)]
 .rw [yE (fun x=>e (xj x))];by_cases y:u∈l
  .rw [yG y,yG (yS _ y)]
  .rw [yE y,yE (fun x=>(yx.mp x).elim y fun x=>e (yv.mp x))]
theorem FoA.updG{a:Fo}{bs:LS}(h:FoA (cc 9) cw H0 H a ss ns qs S bs dn wt lo)(l:xs.length<=(dn++wt).length):FoA (cc 9) cw H0 (upd H a.dg (.lst xs)) a ss ns qs S bs dn wt lo:=by
 obtain⟨n,z,A,B⟩:=h.row;obtain⟨m,u,v,w⟩:=h.par;obtain⟨k,g,i,j⟩:=h.bas;obtain⟨⟨C,D,E,s,F⟩,⟨G,I,t,J⟩,⟨p,b,q⟩,⟨d,r⟩,f⟩:=(by simpa [Fo.six] using h.sep:(¬a.x=a.dr/\¬a.x=a.da/\¬a.x=a.ds/\¬a.x=a.dg/\¬a.x=a.dw)/\(¬a.dr=a.da/\¬a.dr=a.ds/\¬a.dr=a.dg/\¬a.dr=a.dw)/\(¬a.da=a.ds/\¬a.da=a.dg/\¬a.da=a.dw)/\(¬a.ds=a.dg/\¬a.ds=a.dw)/\¬a.dg=a.dw);have bx:Bx a.six H (upd H a.dg (.lst xs)):=(Bx.of (Sr H)).upd (by simp[Fo.six]);show⟨qaO h.sm (h.fr _ (by simp[Fo.six])),h.web,h.prt,h.fr,h.nd,fun c hc=>⟨(h.exf c hc).1,(h.exf c hc).2.1,(h.exf c hc).2.2.elim fun o e=>⟨o,bx _ _ (h.exf c hc).2.1 e⟩⟩,h.obj.eq (qf s),⟨n,by rw[qf t];show z,A,fun y=>(B y).mono bx Fo.sub⟩,⟨m,by rw[qf b];show u,v,w⟩,⟨k,by rw[qf d];show g,i,j⟩,⟨xs,qb,l⟩,by rw[qf (Yd f)];show h.wai,h.evn,h.evi,h.evs⟩
theorem ok_fdF(F:Fun K "fold" "Forest.fold" jN f fd)(T:Txt K mg cc cw)(Kh:MethOk P w K mg base CX0 1 cw "places" ["self"] (spPls cw)):FnOk P w K mg base CX0 2 f fd ["self","ring","meeting"] (spFd cc cw):=by
 show F.ok KN fun _ _ _ _ H vs Q E hr h=>?_
 .obtain⟨H0,a,ss,ns,qs,S,dn,wt,lo,lr,d,m,xs,rfl,h,am,ae,ap,aq,ac,ar,q⟩:=h;have B:=ze hr;show⟨_,(qc (zN (sc:=qh jN) (XN:=["self","ring","meeting","within","place"]) ["place","ring","self","meeting"] 1 [1,0,2] rfl rfl rfl (by room) rfl (by room) (i:=3) KN.nd rfl rfl
  (qL (K:=K) rfl (qS Kh (hmR hr) (qB (K:=K) rfl (pv 0) rfl))) (fun _ _ _ _=>(qk (i:=0) (show(["place","ring","self","meeting"]:LS).Nodup by room) rfl (yP rfl))) qW
  (fun _ _ _ _=>(ji (qj (zt (K:=K) rfl B) (qt (qu (K:=K) rfl B) (qB (K:=K) rfl (pv 2) rfl) (pv 0) (fun _ _=>rfl)) (qE (j6 (K:=K) rfl) (pv 1) (jg (qa (pv 3) qd))) (by with_unfolding_all rfl))))
  (fun _ _ _ _=>(pv 0)))
 (qc (jo yZ rfl (qL (K:=K) rfl (pv 3)) (qk (i:=4) KN.nd rfl (yP rfl))
 (qe (jw (pv 2) (jI (qB (K:=K) rfl (pv 0) rfl) (pv 4) (jJ B)))))
 (qe (qQ (qby (K:=K) rfl yV Yi Yj je (qB (K:=K) rfl (pv 0) rfl) (qa (pv 3) qd)))))),?_⟩
  have ak:=h.few;have A:=h.web.same h.sm;obtain⟨wx,dd,ol,nn,hb,_⟩:=id A;apply .inl (h.obj.rd T 0 rfl ?_);show⟨a.b,wx,_,rfl,hb,j5 (by room),?_⟩;apply⟨a.b,ss,ns,rfl,A,fun pl af=>?_⟩;have s1:=qC (Sr H) (o:=.lst (ss.map V.str)) af;have X:upd H pl (.lst (ss.map V.str)) pl=some (.lst (ss.map V.str)):=qb;generalize upd H pl (.lst (ss.map V.str))=H1 at s1 X;show .inl ⟨⟨_,.of X⟩,qK (xs:=ss.map V.str) (fun i ys J=>L2.Same H1 J/\ys=((ss.take i).filter fun u=>decide (S.bas u∈d++[m])).map V.str) ⟨L2.Same.refl H1,rfl⟩ (fun i ys J _ g=>.of (g.1 _ _ X)) (fun i y ys J G g=>?_) fun ys J g=>?_⟩
  .obtain⟨I,rfl⟩:=g;rw[yd] at G;obtain⟨z,hz,rfl⟩:=yn.mp G;have j:=s1.trans I;have l:=h.same j;obtain⟨ks,N,b2,b3⟩:=l.bas;have an:=(yc.mp hz).1
   have r:(ss.take (i+1)).filter (fun u=>decide (S.bas u∈d++[m]))=(ss.take i).filter (fun u=>decide (S.bas u∈d++[m]))++(if S.bas z∈d++[m] then [z] else []):=by
    rw[yH,hz,Yc];show _++[z].filter _=_;rw[yL];simp only[kE,Yw]
   apply .inl (l.obj.rd T 4 rfl ?_);apply qd4 N (b3 z (ye hz)) ?_;apply⟨by show 1<=sizeLine;decide,fun U Z=>?_⟩;have t1:=qC (Sr J) (o:=.lst [.str m]) Z;have s:upd J U (.lst [.str m]) U=some (.lst [.str m]):=qb;generalize upd J U (.lst [.str m])=J1 at t1 s;show qec ((j.trans t1) _ _ ae) s (by rw[ya];show _+1<=_;lk) fun W aa=>?_;have t2:=qC t1 (o:=.lst (d.map V.str++[.str m])) aa;have t:upd J1 W (.lst (d.map V.str++[.str m])) W=some (.lst ((d++[m]).map V.str)):=by rw[qb,yC];rfl
   generalize upd J1 W (.lst (d.map V.str++[.str m]))=J2 at t2 t;show qbR t ⟨_,rfl,?_⟩;rw[r];by_cases p:S.bas z∈d++[m]
   .rw [yD p,yG p];show zA ?_;ext;have ad:=yQ (fun u=>decide (S.bas u∈d++[m])) (ss.take i);rw[yK] at ad;show⟨by rw[ya];show qi (by lk),I.trans t2,by rw[yC];rfl⟩
   .rw [yl p,yE p,Yb];show yq ?_;show⟨I.trans t2,rfl⟩
  .obtain⟨I,rfl⟩:=g;rw[show(ss.map V.str).length=ss.length from ya _,yO];have j:=s1.trans I;have ah:(ss.filter fun u=>decide (S.bas u∈d++[m])).length<=ss.length:=yQ _ _;show⟨by rw[ya];show yT (qi (by lk)),fun M C=>?_⟩;have O:=qC j (o:=.lst ((wnL S ss d m).map V.str)) C;have Y:upd J M (.lst ((wnL S ss d m).map V.str)) M=some (.lst ((wnL S ss d m).map V.str)):=qb;have al:(wnL S ss d m).length<=ss.length:=ah;have ai:∀ u∈wnL S ss d m,u∈ss:=fun u B=>(yp.mp B).1;show qfs _ _ _ _ (upd J M (.lst ((wnL S ss d m).map V.str)));generalize wnL S ss d m=L at *;have D:=(h.same j).new C;generalize upd J M (.lst (L.map V.str))=H2 at O Y;have h2:=h.same O;apply .inl ⟨⟨_,.of Y⟩,qN (xs:=L.map V.str) (fun i R J=>Bx a.six H2 J/\(∀ o,H2 a.dg=some o->J a.dg=some o)/\FoA (cc 9) cw H0 J a ss ns qs (S.setBas (L.take i) m) ss dn wt lo/\∃ y4,R=[some (.ref a.x),some (.ref lr),some (.str m),some (.ref M),y4]) ⟨fun c o _ e=>e,fun _ e=>e,?_,_,rfl⟩ (fun i R J _ g=>.of (g.1 _ _ D Y)) (fun i y R J G g=>?_) fun R J g=>?_⟩
   .have:S.setBas ([]:LS) m=S:=by unfold FS.setBas;simp
    rw[List.take_zero,this];show h2
   .obtain⟨bx,hg,l,y4,rfl⟩:=g;rw[yd] at G;obtain⟨z,hz,rfl⟩:=yn.mp G;obtain⟨ks,N,b2,b3⟩:=l.bas;have ag:L.take (i+1)=L.take i++[z]:=by rw[yH,hz];rfl
    obtain⟨h3,ao⟩:=l.setB N (ai z (ye hz));apply .inl (l.obj.rd T 4 rfl ?_);apply .inr ⟨a.ds,_,rfl,DPut.k (k:=Sum.inr z) N (by rw[YA];lk),?_⟩;have aj:a.dg≠a.ds:=fun e=>by have:=h.nd;rw[e] at this;simp at this
    show⟨fun c o n e=>by rw[qf (fun y=>n (by rw[y];simp[Fo.six]))];show bx c o n e,fun o e=>by rw[qf aj];show hg o e,by rw[ag];show h3,_,rfl⟩
   .obtain⟨bx,hg,l,y4,rfl⟩:=g;rw[ya,yO] at l;have v:=hg _ (O _ _ ac);apply .inl (l.obj.rd T 5 rfl ?_);show⟨.inl ⟨rfl,_,.of v⟩,?_⟩;apply⟨a.dg,_,_,rfl,rfl,v,qi (by lk),?_⟩;show q _ (l.updG (by rw[yt];simp only[yy,Ym];lk)) ((Bx.of O).trans bx |>.upd (by simp[Fo.six]))
theorem Kj:FnScope ["self","one","other","ones","others","meeting","ring"] ["self","one","other"] (qh qH):=fS
structure Mono(S S':FS):Prop where
 ba:∀ u v,S.bas u=S.bas v->S'.bas u=S'.bas v
 pa:∀ u,S.par u≠none->S'.par u≠none
 ro:∀ u r,S.rows u=some r->S'.rows u=some r
theorem Mono.refl(S:FS):Mono S S:=⟨fun _ _ e=>e,fun _ e=>e,fun _ _ e=>e⟩
theorem Mono.trans{c:FS}(a:Mono S S')(b:Mono S' c):Mono S c:=⟨fun u v e=>b.ba u v (a.ba u v e),fun u e=>b.pa u (a.pa u e),fun u r e=>b.ro u r (a.ro u r e)⟩
structure Wb(A:Str->Str->Prop)(ss:LS)(qs:LP):Prop where
 gr:Gr A (pt qs)
 inn:∀ a b,A a b->a∈ss
 qn:(qv qs).Nodup
 few:ss.length<=14
 nd:ss.Nodup
theorem Alt.inn(W:Wb A ss qs)(h:Alt A (pt qs) r v)(hv:v∈ss):r.length<=14/\∀ u∈r,u∈ss:=by
 have a:∀ u∈r,u∈ss:=fun u f=>by
  obtain⟨j,d⟩:=yf f;obtain⟨g,e⟩:=h.tl;by_cases hl:j+1<r.length
  .obtain⟨b,hb⟩:∃ b,r[j+1]?=some b:=⟨_,yb hl⟩;show W.inn _ _ (h.st j u b d hb).1
  .have c:=(yc.mp d).1;have:j=g.length:=by rw[e,yt] at c hl;simp at c hl;lk
   rw[e,this,yB (yh _),XY] at d;rw[<- ym d];show hv
 show⟨yi (jk h.nd a) W.few,a⟩
theorem qc7(l':LS):∀{l:LS},(∃ d∈l,d∈l')->∃ l1 m l2,l=l1++m::l2/\m∈l'/\(∀ d∈l1,d∉l')/\∃ t,l.filter (fun d=>decide (d∈l'))=m::t
 | [],⟨_,h,_⟩=>by cases h
 | x::r,h=>by
  by_cases b:x∈l'
  .show⟨[],x,r,rfl,b,(fun _ h=>by cases h),_,by rw[yL,yG (yD b)]⟩
  .obtain⟨d,i,a⟩:=h;obtain⟨l1,m,l2,c,e,f,t,g⟩:=qc7 l' (l:=r) ⟨d,(yz.mp i).resolve_left (fun z=>b (by rw[<- z];show a)),a⟩;show⟨x::l1,m,l2,by rw[c];rfl,e,fun y hy=>?_,t,by rw[yL,yE (by simpa using b)];show g⟩;rcases yz.mp hy with rfl | hy
   .show b
   .show f y hy
inductive spBt(cc:Nat->Addr)(cw:Addr)(vs:List V)(H:Hp)(Q:VK)(E:XK):Prop|mk (H0:Hp) (a:Fo) (ss:LS) (ns:LN) (qs:LP) (S:FS) (dn wt:LS) (v w:Str) (rv rw:LS) (A:Str->Str->Prop) (_:vs=[.ref a.x,.str v,.str w]) (_:FoA (cc 9) cw H0 H a ss ns qs S ss dn wt .non) (_:Wb A ss qs) (_:FI A (pt qs) S) (_:S.rows v=some rv) (_:S.rows w=some rw) (_:A v w) (_:(∀(H':Hp) (S':FS) (more:LS),FoA (cc 9) cw H0 H' a ss ns qs S' ss dn (wt++more) .non->Bx a.six H H'->FI A (pt qs) S'->S'.bas v=S'.bas w->Mono S S'->Q .non H')) (_:∀(H':Hp) (t:Addr) (r:LS),FoA (cc 9) cw H0 H' a ss ns qs S ss dn wt (.ref t)->Bx a.six H H'->H' t=some (.lst (r.map V.str))->t∉a.all->Aug A (pt qs) r->r.length<=28->Q .non H')
theorem qew{c d:Str}{Q:VK}(q:Q (.bl (!decide (c=d))) H):qeL K true (.str c) (.str d) H Q:=by
 show .inl ⟨rfl,rfl,?_⟩;rw[yG rfl]
 have e:eqV (.str c) (.str d)=decide (c=d):=by
  by_cases h:c=d
  .subst h;simp[eqV]
  .simp [eqV,h]
 rw[e];show q
theorem FoA.setL{a:Fo}{bs:LS}{fs:List (Str×V)}{v:V}(h:FoA (cc 9) cw H0 H a ss ns qs S bs dn wt .non)(r:H a.x=some (.ins (cc 9) dx fs))(hv:v≠.non):fs.length<1000/\FoA (cc 9) cw H0 (upd H a.x (.ins (cc 9) dx (qD "longer" v fs))) a ss ns qs S bs dn wt v:=by
 obtain⟨l,m,d,J,F,G,I⟩:=h.obj;rw[r] at d;cases d;have hl:=F rfl;obtain⟨t,C,D,E⟩:=h.row;obtain⟨s,w,A,B⟩:=h.par;obtain⟨k,g,i,j⟩:=h.bas;obtain⟨xs,n,p⟩:=h.rng;have q:=h.sep;have nx:∀{c:Addr},c∈[a.dr,a.da,a.ds,a.dg,a.dw]->c≠a.x:=fun hc e=>(yo.mp q).1 (by rw[<- e];show hc);have bx:Bx a.six H (upd H a.x (.ins (cc 9) dx (qD "longer" v fs))):=(Bx.of (Sr H)).upd (by simp[Fo.six]);show⟨by lk,qaO h.sm (h.fr _ (by simp[Fo.six])),h.web,h.prt,h.fr,h.nd,fun c hc=>⟨(h.exf c hc).1,(h.exf c hc).2.1,(h.exf c hc).2.2.elim fun o e=>⟨o,bx _ _ (h.exf c hc).2.1 e⟩⟩,⟨dx,_,qb,yi (jF _ _ _) (by lk),fun e=>absurd e hv,fun f u b=>?_,fun f b=>?_⟩,⟨t,by rw[qf (nx (by simp))];show C,D,fun y=>(E y).mono bx Fo.sub⟩,⟨s,by rw[qf (nx (by simp))];show w,A,B⟩,⟨k,by rw[qf (nx (by simp))];show g,i,j⟩,⟨xs,by rw[qf (nx (by simp))];show n,p⟩,by rw[qf (nx (by simp))];show h.wai,h.evn,h.evi,h.evs⟩
 .rw [qA];by_cases e:f="longer"
  .rw [yG e];subst e;have:(Str.ofString "longer",u)∈a.tab v:=b;simp only[Fo.tab,yz,XE,yM,Yt] at this;rcases this with⟨z,_⟩ | ⟨z,_⟩ | ⟨z,_⟩ | ⟨z,_⟩ | ⟨z,_⟩ | ⟨z,_⟩ | ⟨z,_⟩ | ⟨_,z⟩<;>first | show absurd z (by room) | show congrArg some z.symm
  .rw [yE e];show G f u ?_;have:(f,u)∈a.tab v:=b;simp only[Fo.tab,yz,XE,yM,Yt] at this ⊢;rcases this with z | z | z | z | z | z | z | ⟨z,_⟩
   all_goals first | show absurd z e | simp[z]
 .rw [qA,yE (fun e=>b (by rw[e];room))];show I f b
theorem FoA.rowAt{a:Fo}{bs:LS}(h:FoA (cc 9) cw H0 H a ss ns qs S bs dn wt lo)(e:S.rows u=some r){Q:VK}(q:∀ t,H t=some (.lst (r.map V.str))->Q (.ref t) H):qfx K (.ref a.dr) (.str u) H Q:=by
 obtain⟨g,d,_,f⟩:=h.row;have:=f u;rw[e] at this;obtain⟨t,b,c,_⟩:=this;show qd4 d b (q t c)
theorem ok_bt(F:Fun K "bring_together" "Forest.bring_together" qH f fd)(T:Txt K mg cc cw)(Kz:MethOk P w K mg base CX0 1 (cc 9) "bases_down_from" ["self","place"] (spBd cc cw))(KI:MethOk P w K mg base CX0 2 (cc 9) "reach_round" ["self","one","other","bases"] (spRr cc cw))(uJ:MethOk P w K mg base CX0 2 (cc 9) "fold" ["self","ring","meeting"] (spFd cc cw)):FnOk P w K mg base CX0 3 f fd ["self","one","other"] (spBt cc cw):=by
 show F.ok Kj fun _ _ _ _ H vs Q E hr h=>?_
 .obtain⟨H0,a,ss,ns,qs,S,dn,wt,v,w,rv,g,B,rfl,h,b,I,hv,hw,cg,q1,q2⟩:=h;have M:=ze hr;have Y:∀{v:Str} {r:LS},S.rows v=some r->v∈ss:=fun e=>h.evs _ ((h.evi _).mpr (by rw[e];show fun z=>by cases z));obtain⟨l,hl⟩:=I.chainOf hv;obtain⟨l',D⟩:=I.chainOf hw;have ai:=hl.nd I hv rfl;have C:=D.nd I hw rfl;have Z:l.length<=14:=yi (jk ai fun c hc=>(hl.bs0 I hv hc).elim fun r z=>Y z.1) b.few;have L:l'.length<=14:=yi (jk C fun c hc=>(D.bs0 I hw hc).elim fun r z=>Y z.1) b.few;obtain⟨au,dv⟩:=(I.alt v rv hv).inn b (Y hv);obtain⟨al,dw⟩:=(I.alt w g hw).inn b (Y hw);obtain⟨lx,c,ax⟩:∃ lx c,l=lx++[c]:=by obtain⟨t,e⟩:=hl.ne;show⟨_,_,(xv (by rw[e];show kP _ _)).symm⟩
  obtain⟨ly,d,ay⟩:∃ ly d,l'=ly++[d]:=by obtain⟨t,e⟩:=D.ne;show⟨_,_,(xv (by rw[e];show kP _ _)).symm⟩
  show⟨_,(qc (qm (i:=3) Kj.nd rfl (yP rfl) (qF Kz (hmR hr) (pv 0) (qa (pv 1) qd)))
 (qc (qm (i:=4) Kj.nd rfl (Xu rfl) (qF Kz (hmR hr) (pv 0) (qa (pv 2) qd)))
 (qe (qM (qj (qaB (K:=K) rfl M) (qt (qu (K:=K) rfl M) (pv 3) (qbF qas qg) (fun _ _=>rfl)) (qt (qu (K:=K) rfl M) (pv 4) (qbF qas qg) (fun _ _=>rfl)) (qw _)) (qe (jT (K:=K) rfl (pv 0) (qE (j6 (K:=K) rfl) (qt (qu (K:=K) rfl M) (qB (K:=K) rfl (pv 0) rfl) (pv 1) (fun _ _=>rfl)) (qdG (K:=K) rfl (qt (qu (K:=K) rfl M) (qB (K:=K) rfl (pv 0) rfl) (pv 2) (fun _ _=>rfl)) (jr (qbF qas qg)))) rfl)) (qe (qM (qj (qaB (K:=K) rfl M) (qt (qu (K:=K) rfl M) (pv 3) qg (fun _ _=>rfl)) (qt (qu (K:=K) rfl M) (pv 4) qg (fun _ _=>rfl)) (qw _)) (qc (qm (i:=5) Kj.nd rfl (yP rfl) (qt (qu (K:=K) rfl M) (jG (sc:=qh qH) (XN:=["self","one","other","ones","others","meeting","ring"]) ["base","others"] 1 [4] rfl rfl rfl (by room) rfl (by room)
  (qL (K:=K) rfl (pv 3)) (fun _ _ _ _=>(qk (i:=0) (show(["base","others"]:LS).Nodup by room) rfl (yP rfl))) qW
  (fun _ _ _ _=>(ji (qj (zt (K:=K) rfl M) (pv 0) (pv 1) (by with_unfolding_all rfl))))
  (fun _ _ _ _=>(pv 0))) qg (fun _ _=>rfl)))
 (qc (qm (i:=6) Kj.nd rfl (yP rfl) (qF KI (hmR hr) (pv 0) (qa (pv 1) (qa (pv 2) (qa (jt (qdj (K:=K) rfl) (pv 3) j4 (jr (qby (K:=K) rfl yV Xa XM (qcH (K:=K) rfl) (pv 3) (qa (pv 5) qd)))) qd)))))
 (qc (qQ (qby (K:=K) rfl yV PySem.F.slot_list_extend PySem.F.type_list_extend qbA (pv 6) (qa (qF KI (hmR hr) (pv 0) (qa (pv 2) (qa (pv 1) (qa (jt (qdj (K:=K) rfl) (pv 4) j4 (jr (qby (K:=K) rfl yV Xa XM (qcH (K:=K) rfl) (pv 4) (qa (pv 5) qd)))) qd)))) qd)))
 (qe (qQ (qF uJ (hmR hr) (pv 0) (qa (pv 6) (qa (pv 5) qd)))))))) qq)))))),?_⟩
  ext;obtain⟨dx,fs,ak,_,_,_,ba⟩:=id h.obj;show⟨a.x,dx,fs,rfl,ak,ba _ (by room),?_⟩;apply⟨H0,a,ss,ns,qs,S,dn,wt,.non,v,rv,l,B,rfl,h,b.few,I,hv,hl,Z,fun o1 H1 s1 dl cv=>?_⟩;apply⟨a.x,dx,fs,rfl,s1 _ _ ak,ba _ (by room),?_⟩;apply⟨H0,a,ss,ns,qs,S,dn,wt,.non,w,g,l',B,rfl,h.same s1,b.few,I,hw,D,L,fun o2 H2 s2 dm am=>?_⟩;have aq:=s1.trans s2;have h2:=h.same aq;have R:=s2 _ _ cv;have dt:=h.newA dl;have du:=(h.same s1).newA dm;apply⟨1,rfl,?_⟩;show .inl (zX R (v:=.str c) (by rw[ax];show atI_last) ?_);apply⟨1,rfl,?_⟩;show .inl (zX am (v:=.str d) (by rw[ay];show atI_last) ?_);show qew ⟨_,rfl,?_⟩;by_cases an:c=d
  .rw [yD an];show yq ?_;obtain⟨t0,X⟩:=hl.ne;obtain⟨eg,A⟩:=D.ne;apply .inl (zX R (v:=.str (S.bas v)) (qx (j:=0) (by rw[X];rfl)) ?_);apply .inl (zX am (v:=.str (S.bas w)) (qx (j:=0) (by rw[A];rfl)) ?_);show qew ⟨_,rfl,?_⟩;by_cases ag:S.bas v=S.bas w
   .rw [yD ag];show yq ?_;show q1 H2 S [] (by rw[Yb];show h2) (Bx.of aq) I ag (Mono.refl S)
   .rw [yl ag];show zA ?_;obtain⟨l1,m,l2,U,aj,ao,tf,bq⟩:=qc7 l' (l:=l) ⟨c,by rw[ax];simp,by rw[ay,an];simp⟩;obtain⟨m1,m2,O⟩:=Yr aj;obtain⟨cu,df⟩:=hl.meet I hv hw D U O ao;rw[cu] at O;have dz:m∉m1:=fun z=>by rw[O] at C;show(yX.mp C).2.2 m z m (by simp) rfl
    have dy:m∉l1:=fun z=>ao m z aj;apply .inl ⟨⟨_,.of R⟩,qK (xs:=l.map V.str) (fun i ys J=>J=H2/\ys=((l.take i).filter fun d=>decide (d∈l')).map V.str) ⟨rfl,rfl⟩ (fun i ys J _ hp=>by rw[hp.1];show .of R) (fun i y ys J hy hp=>?_) fun ys J hp=>?_⟩
    .obtain⟨rfl,rfl⟩:=hp;rw[yd] at hy;obtain⟨z,hz,rfl⟩:=yn.mp hy
     have az:(l.take (i+1)).filter (fun d=>decide (d∈l'))=(l.take i).filter (fun d=>decide (d∈l'))++(if z∈l' then [z] else []):=by
      rw[yH,hz,Yc];show _++[z].filter _=_;rw[yL];simp only[kE,Yw]
     have ed:=(yc.mp hz).1;have di:=yQ (fun d=>decide (d∈l')) (l.take i);rw[yK] at di;apply qbR am ⟨_,rfl,?_⟩;rw[az];by_cases G:z∈l'
     .rw [yD G,yG G];show zA ?_;apply⟨by rw[ya];show qi (by lk),rfl,by rw[yC];rfl⟩
     .rw [yl G,yE G,Yb];show yq ?_;show⟨rfl,rfl⟩
    .obtain⟨rfl,rfl⟩:=hp;rw[show(l.map V.str).length=l.length from ya _,yO,bq];have dq:=yQ (fun d=>decide (d∈l')) l;rw[bq] at dq;show⟨by rw[ya];show yT (qi (by lk)),fun cl bt=>?_⟩;have s3:=qC aq (o:=.lst ((m::tf).map V.str)) bt;have bc:=qC (Sr J) (o:=.lst ((m::tf).map V.str)) bt;have bh:upd J cl (.lst ((m::tf).map V.str)) cl=some (.lst ((m::tf).map V.str)):=qb;generalize upd J cl (.lst ((m::tf).map V.str))=H3 at s3 bc bh;apply .inl (zX bh (v:=.str m) (qx (j:=0) rfl) ?_);have h3:=h.same s3;have ae:=bc _ _ R;have bm:=bc _ _ am;apply⟨a.x,dx,fs,rfl,s3 _ _ ak,ba _ (by room),?_⟩;apply⟨.inl ⟨rfl,_,.of ae⟩,?_⟩;apply⟨o1,l,m,rfl,rfl,.of ae,by rw[U];simp,_,rfl,?_⟩;rw[show l.idxOf m=l1.length by rw[U] at ai ⊢;show qcL ai];apply .inl ⟨o1,_,rfl,.of ae,fun c1 aa=>?_⟩;have bi:qct (l.map V.str) none (some ((l1.length:Nat):Int))=l1.map V.str:=by rw[qcl,U,yC,List.take_left' (by simp)]
     rw[bi];have s4:=qC s3 (o:=.lst (l1.map V.str)) aa;have cp:=qC (Sr H3) (o:=.lst (l1.map V.str)) aa;have ac:upd H3 c1 (.lst (l1.map V.str)) c1=some (.lst (l1.map V.str)):=qb;have n1:=h3.new aa;generalize upd H3 c1 (.lst (l1.map V.str))=H4 at s4 cp ac;have h4:=h.same s4
     have av:∀{x y:Str} {rx k W:LS},S.rows x=some rx->(∀ u∈rx,u∈ss)->Ch (pt qs) S (S.bas x) k->k=W++m::l2->∀ c∈W,∃ q rz t,pt qs c=some q/\S.rows q=none/\q∈ss/\rx=rz++q::t:=fun{x y rx k W} hx hs hk ek c hc=>by
      obtain⟨a',b',ea⟩:=Yr hc;have bj:k=a'++c::(b'++m::l2):=by rw[ek,ea];simp
      obtain⟨_,_,_,_,g3,_⟩:=hk.up I hx rfl bj;rcases g3.cases' with⟨_,z⟩ | ⟨q,_,hq,_⟩
      .simp at z
      .obtain⟨rz,t,W,_,k3,_⟩:=hk.suf I hx bj hq;show⟨q,rz,_,hq,k3,hs q (by rw[W];simp),W⟩
     apply⟨H0,a,ss,ns,qs,S,dn,wt,.non,v,w,c1,l1,rv,g,rfl,h4,b.few,ac,n1,hv,hw,au,al,(I.alt v rv hv).nd,?_,?_,b.qn,av (y:=v) hv dv hl U,fun N p ap H5 S1 h5 be cf bn ca cd bw R1 dj=>?_⟩
     .rw [U] at ai;show(yX.mp ai).1
     .rw [U,yt] at Z;lk
     have ec:o1∉a.six:=fun z=>dt (Fo.sub _ z);have co:o2∉a.six:=fun z=>du (Fo.sub _ z);have af:=be _ _ co (cp _ _ bm);apply⟨.inl ⟨rfl,_,.of bn⟩,?_⟩;ext;obtain⟨cs,da,ci,_,_,_,ck⟩:=id h5.obj;show⟨a.x,cs,da,rfl,ci,ck _ (by room),?_⟩;apply⟨.inl ⟨rfl,_,.of af⟩,?_⟩;apply⟨o2,l',m,rfl,rfl,.of af,aj,_,rfl,?_⟩;rw[show l'.idxOf m=m1.length by rw[O] at C ⊢;show qcL C];apply .inl ⟨o2,_,rfl,.of af,fun c2 ah=>?_⟩;have aw:qct (l'.map V.str) none (some ((m1.length:Nat):Int))=m1.map V.str:=by rw[qcl,O,yC,List.take_left' (by simp)]
     rw[aw];have s6:=qC (Sr H5) (o:=.lst (m1.map V.str)) ah;have ad:upd H5 c2 (.lst (m1.map V.str)) c2=some (.lst (m1.map V.str)):=qb;have n2:=h5.new ah;generalize upd H5 c2 (.lst (m1.map V.str))=H6 at s6 ad;have h6:=h5.same s6
     have cn:∀ c∈m1,∀ q,pt qs c=some q->S.rows q=none->S1.rows q=none:=fun c hc q hq hn=>by
      cases e:S1.rows q with
      | none=>rfl
      | some r =>
       exfalso;rcases R1.new q r e with z | ⟨c',hc',z,_⟩
       .rw [hn] at z;cases z
       .have e1:=b.gr.fs z;rw[b.gr.fs hq] at e1;rw[<- ym e1] at hc';show ao c hc' (by rw[O];show yS _ hc)
     apply⟨H0,a.add N,ss,ns,qs,S1,dn,wt++ap,.non,w,v,c2,m1,g,rv,rfl,h6,b.few,ad,n2,R1.old _ _ hw,R1.old _ _ hv,al,au,(I.alt w g hw).nd,?_,?_,b.qn,fun c hc=>?_,fun t2 s bb H7 S2 h7 bf ee cx cb ce bz R2 dk=>?_⟩
     .rw [O] at C;show(yX.mp C).1
     .rw [O,yt] at L;lk
     .obtain⟨q,rz,t,W,k2,k3,k4⟩:=av (y:=v) hw dw D O c hc;show⟨q,rz,t,W,cn c hc q W k2,k3,k4⟩
     have bd:N∉a.six:=h4.new cf;have bo:H7 N=some (.lst (p.map V.str)):=bf _ _ bd (s6 _ _ bn);apply⟨N,t2,_,_,rfl,rfl,bo,cx,by rw[ya,ya,YA];rw[U,yt] at Z;rw[O,yt] at L;lk,?_⟩;have h8:=h7.updE (c:=N) (o:=.lst (p.map V.str++s.map V.str)) (by simp[Fo.add]);obtain⟨xs,dh,ef⟩:=h.rng;have bu:=dk _ (s6 _ _ (dj _ (s4 _ _ dh)));have ds:a.dg≠N:=fun z=>bd (by rw[<- z];simp[Fo.six]);have bp:upd H7 N (.lst (p.map V.str++s.map V.str)) N=some (.lst ((p++s).map V.str)):=by rw[qb,yC]
     have ar:upd H7 N (.lst (p.map V.str++s.map V.str)) a.dg=some (.lst xs):=by rw[qf ds];show bu
     have bg:Bx a.six H (upd H7 N (.lst (p.map V.str++s.map V.str))):=fun e o n k=>by
      have ne:e≠N:=fun z=>by rw[z,s4.free cf] at k;cases k
      rw[qf ne];show bf _ _ n (s6 _ _ (be _ _ n (s4 _ _ k)))
     generalize upd H7 N (.lst (p.map V.str++s.map V.str))=H8 at h8 bp ar bg
     have eb:0<ap.length+bb.length:=by
      rw[bw,bz];rcases l1 with _ | ⟨x,r⟩
      .rcases m1 with _ | ⟨x,r⟩
       .rw [U] at X;rw[O] at A;show absurd ((xD X).1.symm.trans (xD A).1) ag
       .simp
      .simp;lk
     ext;obtain⟨ct,db,cj,_,_,_,cm⟩:=id h8.obj;show⟨a.x,ct,db,rfl,cj,cm _ (by room),?_⟩;apply⟨H0,(a.add N).add t2,ss,ns,qs,S2,dn,wt++ap++bb,.non,N,p++s,m,xs,rfl,h8,b.few,bp,bd,?_,ar,?_,fun H9 h9 cr=>?_⟩
     .rw [yt,cd,ce];rw[U,yt] at Z;rw[O,yt] at L;lk
     .rw [<- yW,<- yW,yt,yt (as:=dn++wt)];lk
     have dp:∀ u,u∈p++s++[m]↔InR (pt qs) m (l1++m1) u:=fun u=>by
      rw[yx,yx,ca,cb,yv];unfold InR;constructor
      .rintro ((⟨c,hc,z⟩ | ⟨c,hc,z⟩) | z)
       .show .inr ⟨c,yS _ hc,z⟩
       .show .inr ⟨c,yR _ hc,z⟩
       .show .inl z
      .rintro (z | ⟨c,hc,z⟩)
       .show .inr z
       .rcases yx.mp hc with y | y
        .show .inl (.inl ⟨c,y,z⟩)
        .show .inl (.inr ⟨c,y,z⟩)
     have br:S2.bas=S.bas:=by rw[R2.bas,R1.bas]
     have bv:∀ u,InR (pt qs) m (l1++m1) (S.bas u)->u∈ss:=fun u M=>by
      cases e:S.rows u with
      | some r=>show Y e
      | none =>
       rw[I.own e] at M;rcases M with z | ⟨c,hc,z⟩
       .obtain⟨r,k,_⟩:=hl.bs0 I hv (c:=m) (by rw[U];simp);rw[z];show Y k
       .have de:∃ r,S.rows c=some r:=by
         rcases yx.mp hc with y | y
         .show(hl.bs0 I hv (by rw[U];show yS _ y)).elim fun r k=>⟨r,k.1⟩
         .show(D.bs0 I hw (by rw[O];show yS _ y)).elim fun r k=>⟨r,k.1⟩
        obtain⟨r,k⟩:=de;rcases z with z | z
        .rw [z];show Y k
        .show b.inn _ _ (b.gr.as (b.gr.fa z))
     have hM:Mg (pt qs) S (S2.setBas (wnL S2 ss (p++s) m) m) v w m l1 m1:=by
      have ch:∀ u,u∈wnL S2 ss (p++s) m↔u∈ss/\InR (pt qs) m (l1++m1) (S.bas u):=fun u=>by
       unfold wnL;rw[yp,Yq,dp,br]
      have nr:∀{u:Str} {r:LS},NewRow S1 w v u r->NewRow S w v u r:=fun⟨a1,a2,a3,a4,W,k2,k3⟩=>by
       rw[R1.old _ _ hw] at W;rw[R1.old _ _ hv] at k2;cases W;cases k2;show⟨_,_,a3,a4,hw,hv,k3⟩
      show⟨by show S2.par=S.par;rw[R2.par,R1.par],fun u r e=>R2.old _ _ (R1.old _ _ e),fun u r e=>?_,fun c hc q hq=>?_,fun u M=>?_,fun u M=>?_⟩
      .rcases R2.new u r e with z | ⟨c,hc,W,k2⟩
       .rcases R1.new u r z with z | z
        .show .inl z
        .show .inr (.inl z)
       .show .inr (.inr ⟨c,hc,W,nr k2⟩)
      .rcases yx.mp hc with y | y
       .obtain⟨r,k⟩:=R1.all c y q hq;show⟨r,R2.old _ _ k⟩
       .show R2.all c y q hq
      .show(if u∈wnL S2 ss (p++s) m then m else S2.bas u)=m;rw[yG ((ch u).mpr ⟨bv u M,M⟩)]
      .show(if u∈wnL S2 ss (p++s) m then m else S2.bas u)=S.bas u;rw[yE (fun z=>M ((ch u).mp z).2),br]
     have hI:=I.merge b.gr hv hw (U ▸ hl) (O ▸ D) (O ▸ ao) (U ▸ df) cg ag hM
     have dc:InR (pt qs) m (l1++m1) (S.bas v):=by
      rcases l1 with _ | ⟨x,r⟩
      .rw [U] at X;cases X;show .inl rfl
      .rw [U] at X;cases X;show .inr ⟨_,by simp,.inl rfl⟩
     have dd:InR (pt qs) m (l1++m1) (S.bas w):=by
      rcases m1 with _ | ⟨x,r⟩
      .rw [O] at A;cases A;show .inl rfl
      .rw [O] at A;cases A;show .inr ⟨_,by simp,.inl rfl⟩
     show q1 H9 _ (ap++bb) ?_ (bg.trans cr) hI ((hM.inn v dc).trans (hM.inn w dd).symm) ⟨fun u z e=>?_,fun u e=>by rw[hM.par];show e,hM.old⟩
     .rw [<- yW];show h9.drop (l:=a.ex) fun c hc=>by simp[Fo.add,hc]
     .by_cases G:InR (pt qs) m (l1++m1) (S.bas u)
      .rw [hM.inn u G,hM.inn z (by rw[<- e];show G)]
      .rw [hM.out u G,hM.out z (by rw[<- e];show G),e]
  .rw [yl an];show zA ?_;apply .inl (h2.obj.rd T 2 rfl ?_);apply h2.rowAt hv fun tv cy=>?_;apply qfL ?_;apply .inl (h2.obj.rd T 2 rfl ?_);apply h2.rowAt hw fun tw cz=>?_;apply⟨1,rfl,?_⟩;show⟨_,rfl,rfl,tw,_,rfl,.of cz,fun c1 aa=>?_⟩;have N:=qC aq (o:=.lst (g.map V.str).reverse) aa;have cq:=qC (Sr H2) (o:=.lst (g.map V.str).reverse) aa;have ac:upd H2 c1 (.lst (g.map V.str).reverse) c1=some (.lst (g.reverse.map V.str)):=by rw[qb,kQ]
   generalize upd H2 c1 (.lst (g.map V.str).reverse)=H3 at N cq ac;show qec (cq _ _ cy) ac (by rw[ya,ya,Yl];lk) fun c2 ah=>?_;have n2:=(h.same N).newA ah;have t2:=qC N (o:=.lst (rv.map V.str++g.reverse.map V.str)) ah;have ad:upd H3 c2 (.lst (rv.map V.str++g.reverse.map V.str)) c2=some (.lst ((rv++g.reverse).map V.str)):=by rw[qb,yC]
   generalize upd H3 c2 (.lst (rv.map V.str++g.reverse.map V.str))=H4 at t2 ad;obtain⟨W,k2⟩:=(h.same t2).setL (v:=.ref c2) (t2 _ _ ak) (fun e=>by cases e);apply .inl ⟨a.x,cc 9,dx,fs,rfl,t2 _ _ ak,T.fcl,T.fa _ (by room),W,?_⟩;have dr:c2≠a.x:=fun z=>n2 (Fo.sub _ (by rw[z];simp[Fo.six]));show q2 _ c2 _ k2 ((Bx.of t2).upd (by simp[Fo.six])) (by rw[qf dr];show ad) n2 (I.aug b.gr hv hw hl D (by rw[ax,ay];simpa using an) cg) (by rw[yt,Yl];lk)
theorem Ku:FnScope ["self","place","other","partner"] ["self","place"] (qh jd):=fS
noncomputable def FS.setPar(S:FS)(u p:Str):FS:=⟨S.rows,fun s=>if s=u then some p else S.par s,S.bas⟩
inductive spLa(cc:Nat->Addr)(cw:Addr)(vs:List V)(H:Hp)(Q:VK)(E:XK):Prop|mk (H0:Hp) (a:Fo) (ss:LS) (ns:LN) (qs:LP) (S:FS) (dn wt:LS) (v:Str) (A:Str->Str->Prop) (_:vs=[.ref a.x,.str v]) (_:FoA (cc 9) cw H0 H a ss ns qs S ss (dn++[v]) wt .non) (_:Wb A ss qs) (_:(∀ s∈ss,zx s=true)) (_:(∀(j:Nat) z u,ss[j]?=some z->(u∈inB ss 0 (ns.getD j 0)↔A z u))) (_:(∀ z∈ss,pt qs z=none->S.rows z≠none)) (_:FI A (pt qs) S) (_:CI A S (fun u=>u∈dn)) (_:(∀(H':Hp) (S':FS) (more:LS),FoA (cc 9) cw H0 H' a ss ns qs S' ss (dn++[v]) (wt++more) .non->Bx a.six H H'->FI A (pt qs) S'->CI A S' (fun u=>u∈dn++[v])->Mono S S'->Q .non H')) (_:∀(H':Hp) (S':FS) (more:LS) (t:Addr) (r:LS),FoA (cc 9) cw H0 H' a ss ns qs S' ss (dn++[v]) (wt++more) (.ref t)->Bx a.six H H'->H' t=some (.lst (r.map V.str))->t∉a.all->Aug A (pt qs) r->r.length<=28->Q .non H')
theorem CI.on(h:CI A S Pd)(m:Mono S S'):CI A S' Pd:=h.mono m.ba m.pa fun u a=>by
 cases e:S.rows u with
 | none=>show absurd e a
 | some r=>rw[m.ro u r e];show fun z=>by cases z
theorem FoA.setP{a:Fo}{bs:LS}{d:List (Key×V)}{p:Str}(h:FoA (cc 9) cw H0 H a ss ns qs S bs dn wt lo)(B:H a.da=some (.dK d))(g:u∈ss)(f:S.par u=none):FoA (cc 9) cw H0 (upd H a.da (.dK (jW d (Sum.inr u) (.str p)))) a ss ns qs (S.setPar u p) bs dn wt lo/\d.length<=ss.length:=by
 obtain⟨D,O,P,R⟩:=h.row;obtain⟨k',q,L,M⟩:=h.par;obtain⟨k,r,t,v⟩:=h.bas;obtain⟨xs,w,A⟩:=h.rng;rw[B] at q;cases q;obtain⟨⟨T,I,U,W,X⟩,⟨J,Y,Z,n9⟩,⟨i,j,l⟩,⟨E,F⟩,G⟩:=(by simpa [Fo.six] using h.sep:(¬a.x=a.dr/\¬a.x=a.da/\¬a.x=a.ds/\¬a.x=a.dg/\¬a.x=a.dw)/\(¬a.dr=a.da/\¬a.dr=a.ds/\¬a.dr=a.dg/\¬a.dr=a.dw)/\(¬a.da=a.ds/\¬a.da=a.dg/\¬a.da=a.dw)/\(¬a.ds=a.dg/\¬a.ds=a.dw)/\¬a.dg=a.dw);have bx:Bx a.six H (upd H a.da (.dK (jW d (Sum.inr u) (.str p)))):=(Bx.of (Sr H)).upd (by simp[Fo.six]);obtain⟨N,K,n,m⟩:=L;show⟨⟨qaO h.sm (h.fr _ (by simp[Fo.six])),h.web,h.prt,h.fr,h.nd,fun c hc=>⟨(h.exf c hc).1,(h.exf c hc).2.1,(h.exf c hc).2.2.elim fun o e=>⟨o,bx _ _ (h.exf c hc).2.1 e⟩⟩,h.obj.eq (qf I),⟨D,by rw[qf J];show O,P,fun y=>(R y).mono bx Fo.sub⟩,⟨_,qb,⟨N++[u],by have:=jh d (Sum.inr u:Key) (.str p);rw[yt];show _<=_+1;lk,yX.mpr ⟨n,XJ _ _,fun x b y C e=>(m u (by rw[<- yv.mp C,<- e];show b)).2 f⟩,fun x b=>?_⟩,fun s=>?_⟩,⟨k,by rw[qf (Yd i)];show r,t,v⟩,⟨xs,by rw[qf (Yd j)];show w,A⟩,by rw[qf (Yd l)];show h.wai,h.evn,h.evi,h.evs⟩,yi K (jk n fun x b=>(m x b).1)⟩
 .show x∈ss/\(if x=u then some p else S.par x)≠none;by_cases e:x=u
  .rw [yG e,e];show⟨g,fun z=>by cases z⟩
  .rw [yE e];show m x ((yx.mp b).resolve_right fun z=>e (yv.mp z))
 .rw [zC,M];show _=(if s=u then some p else S.par s).map V.str;by_cases e:s=u
  .subst e;rw[yG rfl,yG rfl];rfl
  .rw [yE (fun x=>e (xj x)),yE e]
theorem ok_la(F:Fun K "look_around" "Forest.look_around" jd f fd)(T:Txt K mg cc cw)(Ks:MethOk P w K mg base CX0 6 cw "beside" ["self","place"] (spBs cw))(K1:MethOk P w K mg base CX0 3 (cc 9) "bring_together" ["self","one","other"] (spBt cc cw))(Kt:MethOk P w K mg base CX0 1 (cc 9) "reach" ["self","place","row"] (spRe cc cw)):FnOk P w K mg base CX0 7 f fd ["self","place"] (spLa cc cw):=by
 show F.ok Ku fun _ _ _ s H vs Q E hr h=>?_
 .obtain⟨H0,a,ss,ns,qs,S,dn,wt,v,B,rfl,h,d,bg,av,bb,I,hC,q1,q2⟩:=h;have O:=ze hr;show⟨_,(qe (jo yZ rfl (qL (K:=K) rfl (qF Ks (hmR hr) (qB (K:=K) rfl (pv 0) rfl) (qa (pv 1) qd))) (qk (i:=2) Ku.nd rfl (yP rfl))
 (qc (qM (qj (zt (K:=K) rfl O) (pv 2) (qB (K:=K) rfl (pv 0) rfl) (by with_unfolding_all rfl)) (qe (qQ (qF K1 (hmR hr) (pv 0) (qa (pv 1) (qa (pv 2) qd))))) (qe (qM (qj (jC (K:=K) rfl O) (pv 2) (qB (K:=K) rfl (pv 0) rfl) (by with_unfolding_all rfl)) (qc (qm (i:=3) Ku.nd rfl (yP rfl) (qt (qu (K:=K) rfl O) (qB (K:=K) rfl (pv 0) rfl) (pv 2) (fun _ _=>rfl)))
 (qc (jw (pv 1) (jI (qB (K:=K) rfl (pv 0) rfl) (pv 2) (jJ O)))
 (qe (qQ (qF Kt (hmR hr) (pv 0) (qa (pv 3) (qa (qE (j6 (K:=K) rfl) (qt (qu (K:=K) rfl O) (qB (K:=K) rfl (pv 0) rfl) (pv 1) (fun _ _=>rfl)) (jg (qa (pv 2) (qa (pv 3) qd)))) qd))))))) qq)))
 (qe (qM (qj qcw (qB (K:=K) rfl (pv 0) rfl) zk (qw _)) (qe ps_retN) qq))))),?_⟩
  have am:v∈ss:=h.evs v (by simp)
  obtain⟨rv,az⟩:∃ r,S.rows v=some r:=by
   cases e:S.rows v with
   | none=>show absurd e ((h.evi v).mp (by simp))
   | some r=>show⟨r,rfl⟩
  obtain⟨j,hj⟩:=yf am;have ae:=h.web.same h.sm;obtain⟨wx,dd,ol,nn,hb,_⟩:=id ae;apply .inl (h.obj.rd T 0 rfl ?_);show⟨a.b,wx,_,rfl,hb,j5 (by room),?_⟩;apply⟨a.b,ss,ns,v,j,rfl,ae,hj,fun H1 s1 bl af=>?_⟩;have l:=fun u=>av j v u hj;have M:(inB ss 0 (ns.getD j 0)).length<=14:=yi (qaP _ _ _) d.few;generalize inB ss 0 (ns.getD j 0)=bes at l M ⊢;have be:=(h.same s1).new af;have s2:=qC s1 (o:=.lst (bes.map V.str)) af;have eb:upd H1 bl (.lst (bes.map V.str)) bl=some (.lst (bes.map V.str)):=qb;generalize upd H1 bl (.lst (bes.map V.str))=H2 at s2 eb;have h2:=h.same s2;show .inl ⟨⟨_,.of eb⟩,qN (xs:=bes.map V.str) (fun i σ J=>∃(S':FS) (c:LS) (Z y3:Option V),σ=[some (.ref a.x),some (.str v),Z,y3]/\FoA (cc 9) cw H0 J a ss ns qs S' ss (dn++[v]) (wt++c) .non/\Bx a.six H2 J/\FI B (pt qs) S'/\Mono S S'/\∀ u∈bes.take i,S'.bas u=S'.bas v\/(S'.par u≠none/\u∉dn++[v])) ⟨S,[],_,_,rfl,by rw[Yb];show h2,fun _ _ _ e=>e,I,Mono.refl S,(fun u O=>by simp at O)⟩ (fun i σ J _ hp=>?_) (fun i y σ J hy hp=>?_) fun σ J hp=>?_⟩
  .obtain⟨S',c,Z,y3,rfl,_,bx,_⟩:=hp;show .of (bx _ _ be eb)
  .obtain⟨S',c,Z,y3,rfl,g,bx,D,C,L⟩:=hp;rw[yd] at hy;obtain⟨u,ai,rfl⟩:=yn.mp hy;have R:B v u:=(l u).mp (ye ai);have ak:u∈ss:=d.inn _ _ (d.gr.as R);have m:=C.ro v rv az;have N:bes.take (i+1)=bes.take i++[u]:=by rw[yH,ai];rfl
   obtain⟨kr,r1,r2,r3⟩:=g.row;have q:=r3 u;apply .inl (g.obj.rd T 2 rfl ?_);show .inr (.inl ⟨a.dr,_,rfl,DGet.k (k:=Sum.inr u) r1,?_⟩)
   cases A:S'.rows u with
   | some ru =>
    rw[A] at q;obtain⟨tu,k1,k2,_⟩:=q;rw[k1];show⟨_,rfl,zA ?_⟩;ext;obtain⟨dx,fs,U,_,_,_,X⟩:=id g.obj;show⟨a.x,dx,fs,rfl,U,X _ (by room),?_⟩;apply⟨H0,a,ss,ns,qs,S',dn++[v],wt++c,v,u,rv,ru,B,rfl,g,d,D,m,A,R,fun H5 S5 bd h5 G I5 au m5=>?_,fun H5 t5 r5 h5 G e5 n5 aq ax=>?_⟩
    .ext;show .inl (h5.obj.rd T 7 rfl ?_);apply⟨rfl,_,rfl,qJ (fun h=>by simp at h) fun _=>?_⟩;show⟨S5,c++bd,_,_,rfl,by rw[<- yW wt];show h5,bx.trans G,I5,C.trans m5,fun z hz=>?_⟩;rw[N] at hz;rcases yx.mp hz with hz | hz
     .show(L z hz).imp (m5.ba z v) fun y=>⟨m5.pa z y.1,y.2⟩
     .rw [yv.mp hz];show .inl au.symm
    .ext;show .inl (h5.obj.rd T 7 rfl ?_);apply⟨rfl,_,rfl,zA ?_⟩;show q2 H5 S' c t5 r5 h5 (((Bx.of s2).trans bx).trans G) e5 n5 aq ax
   | none =>
    rw[A] at q;have ah:jR kr (.inr u:Key)=none:=q;rw[ah];have aj:u∉dn++[v]:=fun z=>(g.evi u).mp (yS _ z) A;show⟨_,rfl,qJ (fun h=>by cases h) fun _=>?_⟩;obtain⟨ka,p1,p2,p3⟩:=g.par;apply .inl (g.obj.rd T 3 rfl ?_);show .inr (.inl ⟨a.da,_,rfl,DGet.k (k:=Sum.inr u) p1,?_⟩);rw[p3]
    cases ep:S'.par u with
    | some z =>
     show⟨_,rfl,qJ (fun h=>by cases h) fun _=>?_⟩;apply .inl (g.obj.rd T 7 rfl ?_);apply⟨rfl,_,rfl,qJ (fun h=>by simp at h) fun _=>?_⟩;show⟨S',c,_,_,rfl,g,bx,D,C,fun z hz=>?_⟩;rw[N] at hz;rcases yx.mp hz with hz | hz
     .show L z hz
     .rw [yv.mp hz];show .inr ⟨by rw[ep];show(fun y=>by cases y),aj⟩
    | none =>
     show⟨_,rfl,zA ?_⟩
     obtain⟨y,t⟩:∃ y,pt qs u=some y:=by
      cases e:pt qs u with
      | some y=>show⟨y,rfl⟩
      | none =>
       exfalso;have k:=bb u ak e
       cases e2:S.rows u with
       | none=>show k e2
       | some r=>rw[C.ro u r e2] at A;cases A
     have bc:y∈ss:=d.inn _ _ (d.gr.as (d.gr.fa t));have an:=D.fresh d.gr A ep t;have ay:=g.sm _ _ h.prt;obtain⟨Y,bf⟩:=g.setP (p:=v) p1 ak ep;have bi:=d.few;apply .inl (g.obj.rd T 1 rfl ?_);apply qd4 ay (by rw[jU,t];rfl) ?_;apply .inl (g.obj.rd T 3 rfl ?_);apply .inr ⟨a.da,_,rfl,DPut.k (k:=Sum.inr u) p1 (by rw[YA];lk),?_⟩;have aa:Bx a.six H2 (upd J a.da (.dK (jW ka (Sum.inr u) (.str v)))):=bx.upd (by simp[Fo.six]);generalize upd J a.da (.dK (jW ka (Sum.inr u) (.str v)))=J3 at Y aa;ext;obtain⟨dx,fs,U,_,_,_,X⟩:=id Y.obj;show⟨a.x,dx,fs,rfl,U,X _ (by room),?_⟩;apply .inl (Y.obj.rd T 2 rfl ?_);apply Y.rowAt (S:=S'.setPar u v) m fun tv ap=>?_;apply⟨by show 2<=sizeLine;decide,fun c1 aw=>?_⟩;have t1:=qC (Sr J3) (o:=.lst [.str u,.str y]) aw;have ac:upd J3 c1 (.lst [.str u,.str y]) c1=some (.lst [.str u,.str y]):=qb;generalize upd J3 c1 (.lst [.str u,.str y])=J4 at t1 ac;have bh:=((D.alt v rv m).inn d am).1;show qec (t1 _ _ ap) ac (by rw[ya];show _+2<=_;lk) fun c2 ag=>?_;have n2:=(Y.same t1).newA ag;have t2:=qC t1 (o:=.lst (rv.map V.str++[.str u,.str y])) ag;have ad:upd J4 c2 (.lst (rv.map V.str++[.str u,.str y])) c2=some (.lst ((rv++[u,y]).map V.str)):=by rw[qb,yC];rfl
     generalize upd J4 c2 (.lst (rv.map V.str++[.str u,.str y]))=J5 at t2 ad;apply⟨H0,a,ss,ns,qs,S'.setPar u v,ss,dn++[v],wt++c,.non,y,c2,rv++[u,y],rfl,Y.same t2,d.few,ad,n2,bc,an,fun H6 h6 ao _=>?_⟩;have W:Gw S' ((S'.setPar u v).setRow y (rv++[u,y])) v u y rv:=⟨yG rfl,fun s hs=>yE hs,yG rfl,fun s hs=>yE hs,rfl⟩;have I6:=D.grow d.gr m R A ep t W
     have m6:Mono S' ((S'.setPar u v).setRow y (rv++[u,y])):=⟨fun _ _ e=>e,fun z hz=>by
      show(if z=u then some v else S'.par z)≠none;split
      .show fun x=>by cases x
      .show hz,fun z r e=>by rw[W.ro z (fun x=>by rw[x,an] at e;cases e)];show e⟩
     apply .inl (h6.obj.rd T 7 rfl ?_);apply⟨rfl,_,rfl,qJ (fun h=>by simp at h) fun _=>?_⟩;show⟨_,c++[y],_,_,rfl,by rw[<- yW wt];show h6,(aa.trans (Bx.of t2)).trans ao,I6,C.trans m6,fun z hz=>?_⟩;rw[N] at hz;rcases yx.mp hz with hz | hz
     .show(L z hz).imp (m6.ba z v) fun y=>⟨m6.pa z y.1,y.2⟩
     .rw [yv.mp hz];show .inr ⟨by rw[W.pu];show(fun x=>by cases x),aj⟩
  .obtain⟨S',c,Z,y3,rfl,g,bx,D,C,L⟩:=hp;rw[ya,yO] at L;show q1 J S' c g ((Bx.of s2).trans bx) D ?_ C;have ar:=hC.on C;show⟨fun z u hz n=>?_,fun z hz=>?_⟩
   .rcases yx.mp hz with hz1 | hz1
    .by_cases al:u=v
     .rw [al] at n ⊢;rcases L z ((l z).mpr (d.gr.as n)) with y | y
      .show .inl y.symm
      .show absurd (yS _ hz1) y.2
     .rcases ar.cl z u hz1 n with y | ⟨y1,Z⟩
      .show .inl y
      .show .inr ⟨y1,fun x=>(yx.mp x).elim Z fun x=>al (yv.mp x)⟩
    .rw [yv.mp hz1] at n ⊢;show L u ((l u).mpr n)
   .show(g.evi z).mp (yS _ hz)
theorem K2:FnScope ["self","place"] ["self"] (qh j9):=fS
structure FoD(cf cw:Addr)(H0 H:Hp)(a:Fo)(ss:LS)(ns:LN)(qs:LP)(S:FS)(dn wt:LS)(lo:V)(A:Str->Str->Prop):Prop where
 fo:FoA cf cw H0 H a ss ns qs S ss dn wt lo
 en:(lo=.non/\wt=[]/\FI A (pt qs) S/\CI A S (fun u=>u∈dn)/\∀ z∈ss,pt qs z=none->S.rows z≠none)\/∃ t r,lo=.ref t/\H t=some (.lst (r.map V.str))/\t∉a.all/\Aug A (pt qs) r/\r.length<=28
noncomputable def S0:FS:=⟨fun _=>none,fun _=>none,fun s=>s⟩
noncomputable def SI(qs:LP)(l:LS):FS:=⟨fun s=>if s∈l/\pt qs s=none then some [s] else none,fun _=>none,fun s=>s⟩
theorem SI_nil(qs:LP):SI qs []=S0:=by unfold SI S0;simp
theorem SI_on(h:pt qs z=none):SI qs (l++[z])=(SI qs l).setRow z [z]:=by
 unfold SI FS.setRow
 congr 1
 funext s;dsimp only;by_cases e:s=z
 .subst e;rw[yG ⟨by simp,h⟩,yG rfl]
 .rw [yE e];have:s∈l++[z]↔s∈l:=by simp[e]
  simp only[this]
theorem SI_off(h:pt qs z≠none):SI qs (l++[z])=SI qs l:=by
 unfold SI
 congr 1
 funext s;by_cases e:s=z
 .subst e;rw[yE (fun k=>h k.2),yE (fun k=>h k.2)]
 .have:s∈l++[z]↔s∈l:=by simp[e]
  simp only[this]
inductive spGw(cc:Nat->Addr)(cw:Addr)(vs:List V)(H:Hp)(Q:VK)(E:XK):Prop|mk (H0:Hp) (a:Fo) (ss:LS) (ns:LN) (qs:LP) (A:Str->Str->Prop) (_:vs=[.ref a.x]) (_:FoA (cc 9) cw H0 H a ss ns qs S0 [] [] [] .non) (_:Wb A ss qs) (_:(∀ s∈ss,zx s=true)) (_:(∀(j:Nat) z u,ss[j]?=some z->(u∈inB ss 0 (ns.getD j 0)↔A z u))) (_:∀(H':Hp) (S:FS) (dn wt:LS) (lo:V),FoD (cc 9) cw H0 H' a ss ns qs S dn wt lo A->Bx a.six H H'->Q .non H')
theorem qdS{k:Nat}(h:k<n):seqIndex? (k:Int) n=some k:=by
 unfold seqIndex?;simp;lk
theorem nin_prF{Q:VK}(a:H d=some (.dK (prK qs)))(q:Q (.bl (!(pt qs s).isSome)) H):qdC K true (.str s) (.ref d) H Q:=by
 show .inr (.inl ⟨d,_,rfl,DGet.k (k:=Sum.inr s) a,?_⟩);rw[jU,yG rfl,Xr];show q
theorem FoA.ne{a:Fo}{bs:LS}(h:FoA (cc 9) cw H0 H a ss ns qs S bs dn wt lo):(¬a.x=a.dr/\¬a.x=a.da/\¬a.x=a.ds/\¬a.x=a.dg/\¬a.x=a.dw)/\(¬a.dr=a.da/\¬a.dr=a.ds/\¬a.dr=a.dg/\¬a.dr=a.dw)/\(¬a.da=a.ds/\¬a.da=a.dg/\¬a.da=a.dw)/\(¬a.ds=a.dg/\¬a.ds=a.dw)/\¬a.dg=a.dw:=by simpa [Fo.six] using h.sep
theorem FoA.setN{a:Fo}{bs:LS}{ks:List (Key×V)}(h:FoA (cc 9) cw H0 H a ss ns qs S bs dn wt lo)(n:H a.ds=some (.dK ks))(hz:S.bas z=z):FoA (cc 9) cw H0 (upd H a.ds (.dK (jW ks (Sum.inr z) (.str z)))) a ss ns qs S (bs++[z]) dn wt lo/\ks.length<=bs.length:=by
 obtain⟨r,E,F,G⟩:=h.row;obtain⟨q,B,C,D⟩:=h.par;obtain⟨k,g,i,j⟩:=h.bas;obtain⟨xs,l,m⟩:=h.rng;rw[n] at g;cases g;obtain⟨⟨I,J,w,K,L⟩,⟨M,A,N,O⟩,⟨b,s,t⟩,⟨d,f⟩,v⟩:=h.ne;have bx:Bx a.six H (upd H a.ds (.dK (jW ks (Sum.inr z) (.str z)))):=(Bx.of (Sr H)).upd (by simp[Fo.six]);show⟨⟨qaO h.sm (h.fr _ (by simp[Fo.six])),h.web,h.prt,h.fr,h.nd,fun c hc=>⟨(h.exf c hc).1,(h.exf c hc).2.1,(h.exf c hc).2.2.elim fun o e=>⟨o,bx _ _ (h.exf c hc).2.1 e⟩⟩,h.obj.eq (qf w),⟨r,by rw[qf A];show E,F,fun y=>(G y).mono bx Fo.sub⟩,⟨q,by rw[qf b];show B,C,D⟩,⟨_,qb,by have:=jh ks (Sum.inr z:Key) (.str z);rw[yt];show _<=_+1;lk,fun u p=>?_⟩,⟨xs,by rw[qf (Yd d)];show l,m⟩,by rw[qf (Yd f)];show h.wai,h.evn,h.evi,h.evs⟩,i⟩;rw[zC];by_cases e:u=z
 .subst e;rw[yG rfl,hz]
 .rw [yE (fun x=>e (xj x))];show j u ((yx.mp p).resolve_right fun y=>e (yv.mp y))
theorem FoA.pop{a:Fo}{bs:LS}(h:FoA (cc 9) cw H0 H a ss ns qs S bs dn (v::wt) lo):FoA (cc 9) cw H0 (upd H a.dw (.lst (wt.map V.str))) a ss ns qs S bs (dn++[v]) wt lo:=by
 obtain⟨q,B,C,D⟩:=h.row;obtain⟨p,x,z,A⟩:=h.par;obtain⟨k,i,j,l⟩:=h.bas;obtain⟨xs,m,n⟩:=h.rng;obtain⟨⟨E,F,G,I,u⟩,⟨J,K,L,w⟩,⟨r,s,d⟩,⟨t,f⟩,g⟩:=h.ne;have b:dn++[v]++wt=dn++v::wt:=by simp
 have bx:Bx a.six H (upd H a.dw (.lst (wt.map V.str))):=(Bx.of (Sr H)).upd (by simp[Fo.six]);show⟨qaO h.sm (h.fr _ (by simp[Fo.six])),h.web,h.prt,h.fr,h.nd,fun c hc=>⟨(h.exf c hc).1,(h.exf c hc).2.1,(h.exf c hc).2.2.elim fun o e=>⟨o,bx _ _ (h.exf c hc).2.1 e⟩⟩,h.obj.eq (qf u),⟨q,by rw[qf w];show B,by rw[b];show C,fun y=>(D y).mono bx Fo.sub⟩,⟨p,by rw[qf d];show x,z,A⟩,⟨k,by rw[qf f];show i,j,l⟩,⟨xs,by rw[qf g];show m,by rw[b];show n⟩,qb,by rw[b];show h.evn,by rw[b];show h.evi,by rw[b];show h.evs⟩
theorem ok_gw(F:Fun K "grow" "Forest.grow" j9 f fd)(T:Txt K mg cc cw)(Kh:MethOk P w K mg base CX0 1 cw "places" ["self"] (spPls cw))(Kt:MethOk P w K mg base CX0 1 (cc 9) "reach" ["self","place","row"] (spRe cc cw))(K3:MethOk P w K mg base CX0 7 (cc 9) "look_around" ["self","place"] (spLa cc cw)):FnOk P w K mg base CX0 8 f fd ["self"] (spGw cc cw):=by
 show F.ok K2 fun _ _ _ _ H vs Q E hr h=>?_
 .obtain⟨H0,a,ss,ns,qs,B,rfl,h,G,am,ai,q⟩:=h;have hu:=ze hr;have ao:=G.few;show⟨_,(qc (jo yZ rfl (qL (K:=K) rfl (qS Kh (hmR hr) (qB (K:=K) rfl (pv 0) rfl))) (qk (i:=1) K2.nd rfl (yP rfl))
 (qc (jw (pv 1) (jI (qB (K:=K) rfl (pv 0) rfl) (pv 1) (jJ hu)))
 (qe (qM (qj (jC (K:=K) rfl hu) (pv 1) (qB (K:=K) rfl (pv 0) rfl) (by with_unfolding_all rfl)) (qe (qQ (qF Kt (hmR hr) (pv 0) (qa (pv 1) (qa (jg (qa (pv 1) qd)) qd))))) qq))))
 (qe (qaV yZ (PW.pt (qaS (qj qdd (qr (zj (K:=K) rfl) rfl T.b_len YS (qa (qB (K:=K) rfl (pv 0) rfl) qd)) qg (qw _)) (qal (qj qfG (qB (K:=K) rfl (pv 0) rfl) zk (qw _)))))
 (qe (qQ (qF K3 (hmR hr) (pv 0) (qa (qby (K:=K) rfl yV PySem.F.slot_list_pop PySem.F.type_list_pop qcj (qB (K:=K) rfl (pv 0) rfl) (qa qg qd)) qd))))))),?_⟩
  have aa:=h.web.same h.sm;obtain⟨wx,dd,ol,nn,hb,_⟩:=id aa;apply .inl (h.obj.rd T 0 rfl ?_);show⟨a.b,wx,_,rfl,hb,j5 (by room),?_⟩;apply⟨a.b,ss,ns,rfl,aa,fun pl ad=>?_⟩;have ar:=h.new ad;have s1:=qC (Sr H) (o:=.lst (ss.map V.str)) ad;have e1:upd H pl (.lst (ss.map V.str)) pl=some (.lst (ss.map V.str)):=qb;generalize upd H pl (.lst (ss.map V.str))=H1 at s1 e1;show .inl ⟨⟨_,.of e1⟩,qN (xs:=ss.map V.str) (fun i R J=>∃(p:LS) (Y:Option V),R=[some (.ref a.x),Y]/\FoA (cc 9) cw H0 J a ss ns qs (SI qs (ss.take i)) (ss.take i) [] p .non/\Bx a.six H1 J) ⟨[],_,rfl,by rw[List.take_zero,SI_nil];show h.same s1,fun _ _ _ e=>e⟩ (fun i R J _ n=>?_) (fun i y R J hy n=>?_) fun R J n=>?_⟩
  .obtain⟨p,Y,rfl,_,bx⟩:=n;show .of (bx _ _ ar e1)
  .obtain⟨p,Y,rfl,X,bx⟩:=n;rw[yd] at hy;obtain⟨z,hz,rfl⟩:=yn.mp hy;have av:=(yc.mp hz).1;have aq:=ye hz;have ae:ss.take (i+1)=ss.take i++[z]:=by rw[yH,hz];rfl
   obtain⟨ks,b1,b2,b3⟩:=X.bas;rw[yK] at b2;obtain⟨D,_⟩:=X.setN (z:=z) b1 rfl;apply .inl (X.obj.rd T 4 rfl ?_);apply .inr ⟨a.ds,_,rfl,DPut.k (k:=Sum.inr z) b1 (by rw[YA];lk),?_⟩;have s:Bx a.six H1 (upd J a.ds (.dK (jW ks (Sum.inr z) (.str z)))):=bx.upd (by simp[Fo.six]);generalize upd J a.ds (.dK (jW ks (Sum.inr z) (.str z)))=J2 at D s;have an:=D.sm _ _ h.prt;apply .inl (D.obj.rd T 1 rfl ?_);show nin_prF an ⟨_,rfl,?_⟩
   cases ez:pt qs z with
   | some y =>
    show yq ?_;show⟨p,_,rfl,by rw[ae,SI_off (by rw[ez];show fun k=>nomatch k)];show D,s⟩
   | none =>
    show zA ?_;ext;obtain⟨dx,fs,N,_,_,_,O⟩:=id D.obj;show⟨a.x,dx,fs,rfl,N,O _ (by room),?_⟩;apply⟨by show 1<=sizeLine;decide,fun c1 ac=>?_⟩;have n1:=D.newA ac;have t1:=qC (Sr J2) (o:=.lst [.str z]) ac;have Z:upd J2 c1 (.lst [.str z]) c1=some (.lst ([z].map V.str)):=qb;generalize upd J2 c1 (.lst [.str z])=J3 at t1 Z
    have ap:z∉ss.take i:=fun y=>by
     obtain⟨j,hj⟩:=yf y;have aj:=(yc.mp hj).1;rw[yK] at aj;rw[xJ,yG (by lk)] at hj;have:=qG G.nd hj hz;lk
    apply⟨H0,a,ss,ns,qs,SI qs (ss.take i),ss.take i++[z],[],p,.non,z,c1,[z],rfl,D.same t1,ao,Z,n1,aq,yE (fun k=>ap k.1),fun H6 h6 ag _=>?_⟩;show⟨p++[z],_,rfl,by rw[ae,SI_on ez];show h6,(s.trans (Bx.of t1)).trans ag⟩
  .obtain⟨p,Y,rfl,X,bx⟩:=n;rw[ya,yO] at X;have af:Bx a.six H J:=(Bx.of s1).trans bx
   have IJ:FI B (pt qs) (SI qs ss):=FI.start (fun v r e=>by
    have e':(if v∈ss/\pt qs v=none then some [v] else none)=some r:=e;split at e'
    .rename_i k;show⟨k.2,(ym e').symm⟩
    .cases e') (fun _=>rfl) fun _=>rfl
   ext;obtain⟨W,g⟩:∃ W:Nat->L2.St->Hp->Prop,W=fun m R J=>∃(S:FS) (dn wt:LS) (lo:V) (Y:Option V),R=[some (.ref a.x),Y]/\Bx a.six H J/\((lo=.non/\m=15-dn.length/\FoA (cc 9) cw H0 J a ss ns qs S ss dn wt .non/\FI B (pt qs) S/\CI B S (fun u=>u∈dn)/\∀ z∈ss,pt qs z=none->S.rows z≠none)\/(lo≠.non/\m=0/\FoD (cc 9) cw H0 J a ss ns qs S dn wt lo B)):=⟨_,rfl⟩;show⟨W,⟨15,by rw[g];show⟨SI qs ss,[],p,.non,_,rfl,af,.inl ⟨rfl,rfl,X,IJ,⟨(fun v u k=>by cases k),(fun v k=>by cases k)⟩,fun z hz e=>by show(if _ then _ else _)≠none;rw[yG ⟨hz,e⟩];show fun k=>by cases k⟩⟩⟩,fun m R J hW=>?_⟩;rw[g] at hW;obtain⟨S,dn,wt,lo,aw,rfl,d,L⟩:=hW;rcases L with⟨rfl,hm,l,I,hC,M⟩ | ⟨al,hm,U⟩
   .have c:=l.wai;apply .inl (l.obj.rd T 6 rfl ?_);apply qan c ?_;rw[ya];ext
    cases wt with
    | nil =>
     show qJ (fun h=>by simp at h) fun _=>qJ (fun h=>by cases h) fun _=>?_;show q J S dn [] .non ⟨l,.inl ⟨rfl,rfl,I,hC,M⟩⟩ d
    | cons v wt =>
     show qJ (fun _=>?_) fun h=>absurd (yD (by simp)) h;apply .inl (l.obj.rd T 7 rfl ?_);apply⟨_,rfl,zA ⟨fun as H'=>∃ m',m'<m/\W m' as H',fun _ _ z=>z,?_⟩⟩;have au:dn.length+1<=14:=by have:=l.few;rw[yt,yy] at this;lk
     ext;obtain⟨dx,fs,N,_,_,_,O⟩:=id l.obj;show⟨a.x,dx,fs,rfl,N,O _ (by room),?_⟩;apply .inl (l.obj.rd T 6 rfl ?_);show⟨.inl ⟨rfl,_,.of c⟩,?_⟩;apply⟨a.dw,_,0,0,.str v,rfl,rfl,c,by decide,by decide,by rw[ya];show qdS (by simp),rfl,?_⟩;have n:=l.pop;have C:Bx a.six H (upd J a.dw (.lst (wt.map V.str))):=d.upd (by simp[Fo.six]);ext;show spLa cc cw _ (upd J a.dw (.lst (wt.map V.str))) _ _;generalize upd J a.dw (.lst (wt.map V.str))=J2 at n C;show⟨H0,a,ss,ns,qs,S,dn,wt,v,B,rfl,n,G,am,ai,M,I,hC,fun H5 S5 mo h5 A I5 C5 m5=>?_,fun H5 S5 mo t5 r5 h5 A e5 n5 ah ak=>?_⟩
     .show⟨15-(dn++[v]).length,by rw[hm,yt];show _-(_+1)<_;lk,?_⟩;rw[g]
      show⟨S5,dn++[v],wt++mo,.non,_,rfl,C.trans A,.inl ⟨rfl,rfl,h5,I5,C5,fun z hz e=>(by
       have k:=M z hz e
       cases e2:S.rows z with
       | none=>show absurd e2 k
       | some r=>rw[m5.ro z r e2];show fun x=>by cases x)⟩⟩
     .show⟨0,by lk,?_⟩;rw[g];show⟨S5,dn++[v],wt++mo,.ref t5,_,rfl,C.trans A,.inr ⟨(fun e=>by cases e),rfl,⟨h5,.inr ⟨t5,r5,rfl,e5,n5,ah,ak⟩⟩⟩⟩
   .have c:=U.fo.wai;rcases U.en with k | ⟨t,r,rfl,_⟩
    .show absurd k.1 al
    apply .inl (U.fo.obj.rd T 6 rfl ?_);apply qan c ?_;apply qJ (fun _=>?_) (fun _=>qJ (fun h=>by cases h) fun _=>q J S dn wt _ U d);apply .inl (U.fo.obj.rd T 7 rfl ?_);apply⟨_,rfl,qJ (fun h=>by cases h) fun _=>?_⟩;show q J S dn wt _ U d
theorem uF:FnScope ["self","web","pairs"] ["self","web","pairs"] (qh za):=fS
theorem uK:FnScope ["self"] ["self"] (qh zr):=fS
theorem uk:FnScope ["self"] ["self"] (qh jl):=fS
noncomputable def qeR(p:Addr)(H:Hp):Hp:=fun b=>if b=p then none else H b
theorem zJ{b:Addr}(h:b≠p):qeR p H b=H b:=yE h
theorem lkn{f g:Str}{v:V}{fs:List (Str×V)}(h:f≠g)(k:fs.lookup f=none):(qD g v fs).lookup f=none:=by rw[qA,yE h];show k
inductive spFi(cc:Nat->Addr)(cw:Addr)(vs:List V)(H:Hp)(Q:VK)(E:XK):Prop|mk (x dx b r:Addr) (ss:LS) (ns:LN) (us:LQ) (tps qs:LP) (A:Str->Str->Prop) (_:vs=[.ref x,.ref b,.ref r]) (_:H x=some (.ins (cc 9) dx [])) (_:WebAt cw H b ss ns) (_:Adj ss ns tps) (_:Wb A ss qs) (_:(∀ s∈ss,zx s=true)) (_:(∀(j:Nat) z u,ss[j]?=some z->(u∈inB ss 0 (ns.getD j 0)↔A z u))) (_:PL H r us qs) (_:qs.length<=30) (_:(∀ q∈qs,(q∈tps\/(q.2,q.1)∈tps)/\q.1∈ss/\q.2∈ss/\q.1≠q.2)) (_:∀(H0 H':Hp) (a:Fo) (S:FS) (dn wt:LS) (lo:V),a.x=x->a.ex=[]->FoD (cc 9) cw H0 H' a ss ns qs S dn wt lo A->L2.Same (qeR x H) H0->Q .non H')
theorem WebAt.out{b:Addr}{fs:List (Str×V)}(h:WebAt cw H b ss ns)(a:H x=some (.ins (cc 9) dx fs))(hb:b≠x):WebAt cw (qeR x H) b ss ns:=by
 obtain⟨i,d,ol,n,h1,c,e,f,g⟩:=h;show⟨i,d,ol,n,(zJ hb).trans h1,(zJ ?_).trans c,(zJ ?_).trans e,(zJ ?_).trans f,g⟩
 .show zB c a (fun z=>by cases z)
 .show zB e a (fun z=>by cases z)
 .show zB f a (fun z=>by cases z)
theorem ok_fi(F:Fun K "__init__" "Forest.__init__" za f fd)(T:Txt K mg cc cw)(Kl:DefOk P w K mg base CX0 9 "partners_in" ["web","pairs"] (spPn cw))(uL:MethOk P w K mg base CX0 8 (cc 9) "grow" ["self"] (spGw cc cw)):FnOk P w K mg base CX0 10 f fd ["self","web","pairs"] (spFi cc cw):=by
 show F.ok uF fun _ _ _ s H vs Q E hr h=>?_
 .obtain⟨x,dx,b,r,ss,ns,us,tps,qs,B,rfl,hx,hW,hA,bt,ch,cf,hP,ci,cj,q⟩:=h;have hu:=ze hr;show⟨_,(qc (jT (K:=K) rfl (pv 0) (pv 1) rfl)
 (qc (jT (K:=K) rfl (pv 0) (qp Kl (hmR hr) qz (qa (pv 1) (qa (pv 2) qd))) rfl)
 (qc (jT (K:=K) rfl (pv 0) jX rfl)
 (qc (jT (K:=K) rfl (pv 0) jX rfl)
 (qc (jT (K:=K) rfl (pv 0) jX rfl)
 (qc (jT (K:=K) rfl (pv 0) (jg qd) rfl)
 (qc (jT (K:=K) rfl (pv 0) (jg qd) rfl)
 (qc (jT (K:=K) rfl (pv 0) zk rfl)
 (qe (qQ (qS uL (hmR hr) (pv 0)))))))))))),?_⟩
  have ca:b≠x:=fun e=>by
   obtain⟨wx,d,ol,n,hb,_⟩:=id hW;subst e;rw[hx] at hb;injection hb with hb;injection hb with _ _ hb;cases hb
  have cq:r≠x:=zB hP.1 hx (fun z=>by cases z)
  have cr:∀ u∈us,u≠x:=fun u hu=>by
   obtain⟨q,_,eu⟩:=hP.2.mem hu;show zB eu hx (fun z=>by cases z)
  have fa:∀ i,(h:i<8)->NoAttr K (cc 9) (fAtt.getD i ""):=fun i h=>T.fa _ (by have:i<fAtt.length:=h;rw[Yk,yb this];show Xy this);apply .inl ⟨x,cc 9,dx,[],rfl,hx,T.fcl,fa 0 (by decide),by decide,?_⟩;have b1:=(But.refl x H).put (o:=.ins (cc 9) dx (qD "board" (.ref b) []));have bp:upd H x (.ins (cc 9) dx (qD "board" (.ref b) [])) x=some (.ins (cc 9) dx (qD "board" (.ref b) [])):=qb;generalize upd H x (.ins (cc 9) dx (qD "board" (.ref b) []))=H1 at b1 bp ⊢
  have keepW:∀{J:Hp},But x H J->WebAt cw J b ss ns:=fun k=>by
   obtain⟨wx,d,ol,n,h1,h2,h3,h4,h5⟩:=hW;show⟨wx,d,ol,n,k _ _ ca h1,k _ _ (zB h2 hx (fun z=>by cases z)) h2,k _ _ (zB h3 hx (fun z=>by cases z)) h3,k _ _ (zB h4 hx (fun z=>by cases z)) h4,h5⟩
  have cd:PL H1 r us qs:=⟨b1 _ _ cq hP.1,hP.2.len,fun k t ab ht ce=>b1 _ _ (cr t (ye ht)) (hP.2.at_ k t ab ht ce)⟩;apply⟨b,r,ss,ns,us,tps,qs,rfl,keepW b1,hA,cd,⟨cj,bt.qn,ci⟩,fun dp H2 s2 bg cg=>?_⟩;have bv:=s2 _ _ bp;have b2:=b1.same s2;have cp:dp≠x:=fun e=>by rw[e,bp] at bg;cases bg
  have hl:∀{f:Str} {v:V} {fs:List (Str×V)} {n:Nat},fs.length<=n->(qD f v fs).length<=n+1:=fun h=>yi (jF _ _ _) (by lk);apply .inl ⟨x,cc 9,dx,_,rfl,bv,T.fcl,fa 1 (by decide),Yx (hl (n:=0) (yh _)) (by decide),?_⟩
  have c3:L2.Same (qeR x H2) (upd H2 x (.ins (cc 9) dx (qD "partners" (.ref dp) (qD "board" (.ref b) [])))):=fun c o e=>by
   have hc:c≠x:=fun z=>by rw[z] at e;unfold qeR at e;rw[yG rfl] at e;cases e
   rw[zJ hc] at e;rw[qf hc];show e
  have ap:upd H2 x (.ins (cc 9) dx (qD "partners" (.ref dp) (qD "board" (.ref b) []))) x=some (.ins (cc 9) dx (qD "partners" (.ref dp) (qD "board" (.ref b) []))):=qb;obtain⟨H0,ac⟩:∃ H0,H0=qeR x H2:=⟨_,rfl⟩;rw[<- ac] at c3;have D:H0 x=none:=by rw[ac];show yG rfl
  have l3:(qD "partners" (.ref dp) (qD "board" (.ref b) [])).length<=2:=hl (hl (n:=0) (yh _));generalize upd H2 x (.ins (cc 9) dx (qD "partners" (.ref dp) (qD "board" (.ref b) [])))=H3 at c3 ap ⊢;obtain⟨f3,bh⟩:∃ f3,f3=qD "partners" (.ref dp) (qD "board" (.ref b) []):=⟨_,rfl⟩;rw[<- bh] at ap l3;ext;intro m ao;have C:m≠x:=fun e=>by rw[e,ap] at ao;cases ao
  have cv:H0 m=none:=c3.free ao;have ck:upd H3 m (.dK []) x=some (.ins (cc 9) dx f3):=by rw[qf C.symm];show ap
  apply .inl ⟨x,cc 9,dx,_,rfl,ck,T.fcl,fa 2 (by decide),Yx l3 (by decide),?_⟩;have c4:L2.Same H0 (upd (upd H3 m (.dK [])) x (.ins (cc 9) dx (qD "rows" (.ref m) f3))):=qaO (qC c3 ao) D;have aq:(upd (upd H3 m (.dK [])) x (.ins (cc 9) dx (qD "rows" (.ref m) f3))) x=some (.ins (cc 9) dx (qD "rows" (.ref m) f3)):=qb;have l4:(qD "rows" (.ref m) f3).length<=3:=hl l3;have U:(upd (upd H3 m (.dK [])) x (.ins (cc 9) dx (qD "rows" (.ref m) f3))) m=some (.dK []):=by rw[qf C,qb]
  generalize upd (upd H3 m (.dK [])) x (.ins (cc 9) dx (qD "rows" (.ref m) f3))=H4 at c4 aq U ⊢;obtain⟨f4,bi⟩:∃ f,f=qD "rows" (.ref m) f3:=⟨_,rfl⟩;rw[<- bi] at aq l4;ext;intro l G;have I:l≠x:=fun e=>by rw[e,aq] at G;cases G
  have ct:H0 l=none:=c4.free G;have ad:l≠m:=fun e=>by rw[e,U] at G;cases G
  have cl:upd H4 l (.dK []) x=some (.ins (cc 9) dx f4):=by rw[qf I.symm];show aq
  apply .inl ⟨x,cc 9,dx,_,rfl,cl,T.fcl,fa 3 (by decide),Yx l4 (by decide),?_⟩;have c5:L2.Same H0 (upd (upd H4 l (.dK [])) x (.ins (cc 9) dx (qD "parents" (.ref l) f4))):=qaO (qC c4 G) D;have ar:(upd (upd H4 l (.dK [])) x (.ins (cc 9) dx (qD "parents" (.ref l) f4))) x=some (.ins (cc 9) dx (qD "parents" (.ref l) f4)):=qb;have l5:(qD "parents" (.ref l) f4).length<=4:=hl l4;have M:(upd (upd H4 l (.dK [])) x (.ins (cc 9) dx (qD "parents" (.ref l) f4))) l=some (.dK []):=by rw[qf I,qb]
  have W:(upd (upd H4 l (.dK [])) x (.ins (cc 9) dx (qD "parents" (.ref l) f4))) m=some (.dK []):=by rw[qf C,qf (Yd ad)];show U
  generalize upd (upd H4 l (.dK [])) x (.ins (cc 9) dx (qD "parents" (.ref l) f4))=H5 at c5 ar W M ⊢;obtain⟨f5,bj⟩:∃ f,f=qD "parents" (.ref l) f4:=⟨_,rfl⟩;rw[<- bj] at ar l5;ext;intro j A;have ah:j≠x:=fun e=>by rw[e,ar] at A;cases A
  have cx:H0 j=none:=c5.free A;have aj:j≠m:=fun e=>by rw[e,W] at A;cases A
  have ai:j≠l:=fun e=>by rw[e,M] at A;cases A
  have cm:upd H5 j (.dK []) x=some (.ins (cc 9) dx f5):=by rw[qf ah.symm];show ar
  apply .inl ⟨x,cc 9,dx,_,rfl,cm,T.fcl,fa 4 (by decide),Yx l5 (by decide),?_⟩;have c6:L2.Same H0 (upd (upd H5 j (.dK [])) x (.ins (cc 9) dx (qD "bases" (.ref j) f5))):=qaO (qC c5 A) D;have as:(upd (upd H5 j (.dK [])) x (.ins (cc 9) dx (qD "bases" (.ref j) f5))) x=some (.ins (cc 9) dx (qD "bases" (.ref j) f5)):=qb;have l6:(qD "bases" (.ref j) f5).length<=5:=hl l5;have Z:(upd (upd H5 j (.dK [])) x (.ins (cc 9) dx (qD "bases" (.ref j) f5))) j=some (.dK []):=by rw[qf ah,qb]
  have X:(upd (upd H5 j (.dK [])) x (.ins (cc 9) dx (qD "bases" (.ref j) f5))) m=some (.dK []):=by rw[qf C,qf (Yd aj)];show W
  have N:(upd (upd H5 j (.dK [])) x (.ins (cc 9) dx (qD "bases" (.ref j) f5))) l=some (.dK []):=by rw[qf I,qf (Yd ai)];show M
  generalize upd (upd H5 j (.dK [])) x (.ins (cc 9) dx (qD "bases" (.ref j) f5))=H6 at c6 as X N Z ⊢;obtain⟨f6,bm⟩:∃ f,f=qD "bases" (.ref j) f5:=⟨_,rfl⟩;rw[<- bm] at as l6;apply⟨by show 0<=sizeLine;decide,fun g y=>?_⟩;have av:g≠x:=fun e=>by rw[e,as] at y;cases y
  have cu:H0 g=none:=c6.free y;have af:g≠m:=fun e=>by rw[e,X] at y;cases y
  have ae:g≠l:=fun e=>by rw[e,N] at y;cases y
  have ag:g≠j:=fun e=>by rw[e,Z] at y;cases y
  have cn:upd H6 g (.lst []) x=some (.ins (cc 9) dx f6):=by rw[qf av.symm];show as
  apply .inl ⟨x,cc 9,dx,_,rfl,cn,T.fcl,fa 5 (by decide),Yx l6 (by decide),?_⟩;have c7:L2.Same H0 (upd (upd H6 g (.lst [])) x (.ins (cc 9) dx (qD "rings" (.ref g) f6))):=qaO (qC c6 y) D;have au:(upd (upd H6 g (.lst [])) x (.ins (cc 9) dx (qD "rings" (.ref g) f6))) x=some (.ins (cc 9) dx (qD "rings" (.ref g) f6)):=qb;have l7:(qD "rings" (.ref g) f6).length<=6:=hl l6;have R:(upd (upd H6 g (.lst [])) x (.ins (cc 9) dx (qD "rings" (.ref g) f6))) g=some (.lst []):=by rw[qf av,qb]
  have Y:(upd (upd H6 g (.lst [])) x (.ins (cc 9) dx (qD "rings" (.ref g) f6))) m=some (.dK []):=by rw[qf C,qf (Yd af)];show X
  have O:(upd (upd H6 g (.lst [])) x (.ins (cc 9) dx (qD "rings" (.ref g) f6))) l=some (.dK []):=by rw[qf I,qf (Yd ae)];show N
  have aa:(upd (upd H6 g (.lst [])) x (.ins (cc 9) dx (qD "rings" (.ref g) f6))) j=some (.dK []):=by rw[qf ah,qf (Yd ag)];show Z
  generalize upd (upd H6 g (.lst [])) x (.ins (cc 9) dx (qD "rings" (.ref g) f6))=H7 at c7 au Y O aa R ⊢;obtain⟨L,bn⟩:∃ f,f=qD "rings" (.ref g) f6:=⟨_,rfl⟩;rw[<- bn] at au l7;apply⟨by show 0<=sizeLine;decide,fun a p=>?_⟩;have br:a≠x:=fun e=>by rw[e,au] at p;cases p
  have cy:H0 a=none:=c7.free p;have am:a≠m:=fun e=>by rw[e,Y] at p;cases p
  have ak:a≠l:=fun e=>by rw[e,O] at p;cases p
  have an:a≠j:=fun e=>by rw[e,aa] at p;cases p
  have al:a≠g:=fun e=>by rw[e,R] at p;cases p
  have co:upd H7 a (.lst []) x=some (.ins (cc 9) dx L):=by rw[qf br.symm];show au
  apply .inl ⟨x,cc 9,dx,_,rfl,co,T.fcl,fa 6 (by decide),Yx l7 (by decide),?_⟩;have c8:L2.Same H0 (upd (upd H7 a (.lst [])) x (.ins (cc 9) dx (qD "waiting" (.ref a) L))):=qaO (qC c7 p) D;have bq:(upd (upd H7 a (.lst [])) x (.ins (cc 9) dx (qD "waiting" (.ref a) L))) x=some (.ins (cc 9) dx (qD "waiting" (.ref a) L)):=qb;have l8:(qD "waiting" (.ref a) L).length<=7:=hl l7;have be:(upd (upd H7 a (.lst [])) x (.ins (cc 9) dx (qD "waiting" (.ref a) L))) a=some (.lst []):=by rw[qf br,qb]
  have ba:(upd (upd H7 a (.lst [])) x (.ins (cc 9) dx (qD "waiting" (.ref a) L))) m=some (.dK []):=by rw[qf C,qf (Yd am)];show Y
  have aw:(upd (upd H7 a (.lst [])) x (.ins (cc 9) dx (qD "waiting" (.ref a) L))) l=some (.dK []):=by rw[qf I,qf (Yd ak)];show O
  have bc:(upd (upd H7 a (.lst [])) x (.ins (cc 9) dx (qD "waiting" (.ref a) L))) j=some (.dK []):=by rw[qf ah,qf (Yd an)];show aa
  have ay:(upd (upd H7 a (.lst [])) x (.ins (cc 9) dx (qD "waiting" (.ref a) L))) g=some (.lst []):=by rw[qf av,qf (Yd al)];show R
  generalize upd (upd H7 a (.lst [])) x (.ins (cc 9) dx (qD "waiting" (.ref a) L))=H8 at c8 bq ba aw bc ay be ⊢;obtain⟨f8,bo⟩:∃ f,f=qD "waiting" (.ref a) L:=⟨_,rfl⟩;rw[<- bo] at bq l8;apply .inl ⟨x,cc 9,dx,_,rfl,bq,T.fcl,fa 7 (by decide),Yx l8 (by decide),?_⟩;have c9:L2.Same H0 (upd H8 x (.ins (cc 9) dx (qD "longer" .non f8))):=qaO c8 D;have bz:(upd H8 x (.ins (cc 9) dx (qD "longer" .non f8))) x=some (.ins (cc 9) dx (qD "longer" .non f8)):=qb;have l9:(qD "longer" .non f8).length<=8:=hl l8;have bb:(upd H8 x (.ins (cc 9) dx (qD "longer" .non f8))) m=some (.dK []):=by rw[qf C];show ba
  have ax:(upd H8 x (.ins (cc 9) dx (qD "longer" .non f8))) l=some (.dK []):=by rw[qf I];show aw
  have bd:(upd H8 x (.ins (cc 9) dx (qD "longer" .non f8))) j=some (.dK []):=by rw[qf ah];show bc
  have az:(upd H8 x (.ins (cc 9) dx (qD "longer" .non f8))) g=some (.lst []):=by rw[qf av];show ay
  have bf:(upd H8 x (.ins (cc 9) dx (qD "longer" .non f8))) a=some (.lst []):=by rw[qf br];show be
  generalize upd H8 x (.ins (cc 9) dx (qD "longer" .non f8))=H9 at c9 bz bb ax bd az bf ⊢
  have hF:FoA (cc 9) cw H0 H9 ⟨x,b,dp,m,l,j,g,a,[]⟩ ss ns qs S0 [] [] [] .non:=by
   show⟨c9,?_,?_,fun c hc=>?_,?_,(fun c hc=>by cases hc),⟨dx,_,bz,kB l9,fun _=>l9,fun f v hf=>?_,fun f hf=>?_⟩,⟨[],bb,yh _,fun _=>rfl⟩,⟨[],ax,⟨[],yh _,.nil,(fun u hu=>by cases hu)⟩,fun _=>rfl⟩,⟨[],bd,yh _,(fun s hs=>by cases hs)⟩,⟨[],az,yh _⟩,bf,.nil,fun v=>⟨(fun k=>by cases k),fun k=>absurd rfl k⟩,(fun v hv=>by cases hv)⟩
   .rw [ac];show(keepW b2).out bv ca
   .rw [ac];show(zJ cp).trans cg
   .simp only[Fo.six,yz,yM,Yt] at hc;rcases hc with rfl | rfl | rfl | rfl | rfl | rfl<;>assumption
   .simp [ad.symm,aj.symm,af.symm,am.symm,ai.symm,ae.symm,ak.symm,ag.symm,an.symm,al.symm]
   .simp only[Fo.tab,yz,XE,yM,Yt] at hf;rw[bo,bn,bm,bj,bi,bh];rcases hf with⟨rfl,rfl⟩ | ⟨rfl,rfl⟩ | ⟨rfl,rfl⟩ | ⟨rfl,rfl⟩ | ⟨rfl,rfl⟩ | ⟨rfl,rfl⟩ | ⟨rfl,rfl⟩ | ⟨rfl,rfl⟩<;>rfl
   .rw [bo,bn,bm,bj,bi,bh];have no:∀ i,i<8->f≠fAtt.getD i "":=fun i hi e=>hf (by rw[e,Yk,yb (show i<fAtt.length from hi)];show Xy _);show lkn (no 7 (by decide)) (lkn (no 6 (by decide)) (lkn (no 5 (by decide)) (lkn (no 4 (by decide)) (lkn (no 3 (by decide)) (lkn (no 2 (by decide)) (lkn (no 1 (by decide)) (lkn (no 0 (by decide)) rfl)))))))
  ext;obtain⟨cb,fs,bu,_,_,_,bw⟩:=id hF.obj;show⟨x,cb,fs,rfl,bu,bw _ (by room),?_⟩;apply⟨H0,_,ss,ns,qs,B,rfl,hF,bt,ch,cf,fun HA S dn wt lo hD cs=>?_⟩;show q H0 HA _ S dn wt lo rfl rfl hD fun c o e=>?_;have hc:c≠x:=fun z=>by rw[z] at e;unfold qeR at e;rw[yG rfl] at e;cases e
  rw[zJ hc] at e;rw[ac,zJ hc];show b2 _ _ hc e
inductive spFr(cc:Nat->Addr)(cw:Addr)(vs:List V)(H:Hp)(Q:VK)(E:XK):Prop|mk (H0:Hp) (a:Fo) (ss:LS) (ns:LN) (qs:LP) (S:FS) (dn wt:LS) (lo:V) (A:Str->Str->Prop) (_:vs=[.ref a.x]) (_:FoD (cc 9) cw H0 H a ss ns qs S dn wt lo A) (_:(lo=.non->Q .non H)) (_:∀(t:Addr) (r:LS),lo=.ref t->H t=some (.lst (r.map V.str))->Aug A (pt qs) r->∀ l,H l=none->Q (.ref l) (upd H l (.lst (r.map V.str))))
inductive spFd2(cc:Nat->Addr)(cw:Addr)(vs:List V)(H:Hp)(Q:VK)(E:XK):Prop|mk (H0:Hp) (a:Fo) (ss:LS) (ns:LN) (qs:LP) (S:FS) (dn wt:LS) (lo:V) (A:Str->Str->Prop) (_:vs=[.ref a.x]) (_:FoD (cc 9) cw H0 H a ss ns qs S dn wt lo A) (_:ss.length<=14) (_:(lo≠.non->Q .non H)) (_:(lo=.non->∀(l:Addr) (H':Hp),L2.Same H H'->H l=none->H' l=some (.lst ((ss.filter fun s=>(S.rows s).isSome).map V.str))->Q (.ref l) H'))
theorem ok_fr(F:Fun K "row" "Forest.row" zr f fd)(T:Txt K mg cc cw):FnOk P w K mg base CX0 1 f fd ["self"] (spFr cc cw):=by
 show F.ok uK fun _ _ _ _ H vs Q E i h=>?_
 .obtain⟨H0,a,ss,ns,qs,S,dn,wt,lo,B,rfl,b,e,g⟩:=h;show⟨_,(qe (qo (qcO (qj qfG (qB (K:=K) rfl (pv 0) rfl) zk (qw _)) zk (qat (qcF (K:=K) rfl rfl) rfl T.b_list Xz (qa (qB (K:=K) rfl (pv 0) rfl) qd))))),?_⟩;apply .inl (b.fo.obj.rd T 7 rfl ?_);ext;rcases b.en with⟨rfl,_⟩ | ⟨t,r,rfl,c,j,d,_⟩
  .show⟨_,rfl,zA ?_⟩;apply e rfl
  .show⟨_,rfl,qJ (fun h=>by cases h) fun _=>?_⟩;apply .inl (b.fo.obj.rd T 7 rfl ?_);apply .inl ⟨t,_,rfl,.inl (.of c),g t r rfl c d⟩
theorem ok_fd2(F:Fun K "reached" "Forest.reached" jl f fd)(T:Txt K mg cc cw)(D:MethOk P w K mg base CX0 1 cw "places" ["self"] (spPls cw)):FnOk P w K mg base CX0 2 f fd ["self"] (spFd2 cc cw):=by
 show F.ok uk fun _ _ _ s H vs Q E x h=>?_
 .obtain⟨H0,a,ss,ns,qs,S,dn,wt,lo,B,rfl,v,G,M,N⟩:=h;have L:=ze x;show⟨_,(qc (qM (qj qcw (qB (K:=K) rfl (pv 0) rfl) zk (qw _)) (qe (qo zk)) qq)
 (qe (qo (jG (sc:=qh jl) (XN:=["self"]) ["place","self"] 1 [0] rfl rfl rfl (by room) rfl (by room)
  (qL (K:=K) rfl (qS D (hmR x) (qB (K:=K) rfl (pv 0) rfl))) (fun _ _ _ _=>(qk (i:=0) (show(["place","self"]:LS).Nodup by room) rfl (yP rfl))) qW
  (fun _ _ _ _=>(ji (qj (zt (K:=K) rfl L) (pv 0) (qB (K:=K) rfl (pv 1) rfl) (by with_unfolding_all rfl))))
  (fun _ _ _ _=>(pv 0)))))),?_⟩
  have h:=v.fo;apply .inl (h.obj.rd T 7 rfl ?_);ext;rcases v.en with⟨rfl,_⟩ | ⟨t,r,rfl,_⟩
  .show⟨rfl,_,rfl,qJ (fun h=>by simp at h) fun _=>?_⟩;have g:=h.web.same h.sm;obtain⟨U,W,ol,X,hb,_⟩:=id g;apply .inl (h.obj.rd T 0 rfl ?_);show⟨a.b,U,_,rfl,hb,j5 (by room),?_⟩;apply⟨a.b,ss,ns,rfl,g,fun pl u=>?_⟩;have n:=qC (Sr H) (o:=.lst (ss.map V.str)) u;have p:upd H pl (.lst (ss.map V.str)) pl=some (.lst (ss.map V.str)):=qb;generalize upd H pl (.lst (ss.map V.str))=H1 at n p;have h1:=h.same n;obtain⟨C,O,Y,R⟩:=h1.row;show .inl ⟨⟨_,.of p⟩,qK (xs:=ss.map V.str) (fun i ys J=>J=H1/\ys=((ss.take i).filter fun s=>(S.rows s).isSome).map V.str) ⟨rfl,rfl⟩ (fun i ys J _ m=>by rw[m.1];show .of p) (fun i y ys J A m=>?_) fun ys J m=>?_⟩
   .obtain⟨rfl,rfl⟩:=m;rw[yd] at A;obtain⟨z,hz,rfl⟩:=yn.mp A;have I:=(yc.mp hz).1;have j:=yQ (fun s=>(S.rows s).isSome) (ss.take i);rw[yK] at j
    have d:(ss.take (i+1)).filter (fun s=>(S.rows s).isSome)=(ss.take i).filter (fun s=>(S.rows s).isSome)++(if (S.rows z).isSome=true then [z] else []):=by
     rw[yH,hz,Yc];show _++[z].filter _=_;rw[yL,Yw]
    apply .inl (h1.obj.rd T 2 rfl ?_);show .inr (.inl ⟨a.dr,_,rfl,DGet.k (k:=Sum.inr z) O,?_⟩);have c:=R z
    have q:(jR C (.inr z:Key)).isSome=(S.rows z).isSome:=by
     cases e:S.rows z with
     | none=>rw[e] at c;rw[show jR C (.inr z:Key)=none from c];rfl
     | some r=>rw[e] at c;obtain⟨t,k,_⟩:=c;rw[k];rfl
    rw[yE (by decide),q,d];show⟨_,rfl,?_⟩
    cases (S.rows z).isSome with
    | true =>
     show zA ?_;rw[yG rfl];apply⟨by rw[ya];show qi (by lk),rfl,by rw[yC];rfl⟩
    | false =>
     show yq ?_;rw[yE (by decide),Yb];show⟨rfl,rfl⟩
   .obtain⟨rfl,rfl⟩:=m;rw[show(ss.map V.str).length=ss.length from ya _,yO];have j:=yQ (fun s=>(S.rows s).isSome) ss;show⟨by rw[ya];show yT (qi (by lk)),fun l hl=>?_⟩;show N rfl l _ (qC n hl) (n.free hl) qb
  .show⟨rfl,_,rfl,zA ?_⟩;apply M (fun e=>by cases e)
theorem K9:FnScope ["web","pairs","partners"] ["web","pairs"] (qh j0):=fS
theorem Kv:FnScope ["web","thing","seen","place"] ["web","thing"] (qh jj):=fS
theorem qbS(a b:Str):eqV (.str a) (.str b)=decide (a=b):=by
 unfold eqV;by_cases h:a=b<;>simp[h]
theorem vEqS{i j:Str}{Q:VK}(q:Q (.bl (decide (i=j))) H):qfi K (.str i) (.str j) H Q:=.inl (.inl (.inl ⟨rfl,rfl,by rw[yE (by decide),qbS];show q⟩))
theorem qf3{i j:Str}{Q:VK}(q:Q (.bl (!decide (i=j))) H):qeL K true (.str i) (.str j) H Q:=.inl ⟨rfl,rfl,by rw[yG rfl,qbS];show q⟩
noncomputable def qbh(a qs:LP):LP:=a.filter fun q=>decide (pt qs q.1=some q.2)
inductive spTp(cw:Addr)(vs:List V)(H:Hp)(Q:VK)(E:XK):Prop|mk (x l:Addr) (ss:LS) (ns:LN) (us:LQ) (tps qs:LP) (_:vs=[.ref x,.ref l]) (_:WebAt cw H x ss ns) (_:Adj ss ns tps) (_:PL H l us qs) (_:PGo ss tps qs) (_:∀(l:Addr) (ls:LQ) (H':Hp),L2.Same H H'->H l=none->H' l=some (.lst (ls.map V.ref))->ls.length<=196->All2 (PrAt H H' l) ls (qbh (qR ss ns ss.length) qs)->Q (.ref l) H')
noncomputable def stp(rs:LS):LP:=rs.zip rs.tail
noncomputable def prB(qs:LP)(ab:Str×Str):Bool:=decide (pt qs ab.1=some ab.2)
theorem stp_at:(stp rs)[j]?=some ab↔rs[j]?=some ab.1/\rs[j+1]?=some ab.2:=by
 unfold stp;rw[List.getElem?_zip_eq_some,Xk]
theorem qaq(rs:LS):(stp rs).length=rs.length-1:=by unfold stp;rw[List.length_zip,Xd];lk
structure RowG(ss:LS)(tps qs:LP)(rs:LS):Prop where
 nd:rs.Nodup
 two:2<=rs.length
 few:rs.length<=1000
 inn:∀ r∈rs,r∈ss
 tie:∀(j:Nat) ab,(stp rs)[j]?=some ab->(ab∈tps\/(ab.2,ab.1)∈tps)/\prB qs ab=decide (j % 2=1)
 hd:∀ s,rs[0]?=some s->pt qs s=none
 tl:∀ s,rs[rs.length-1]?=some s->pt qs s=none
structure Rw(cw:Addr)(H:Hp)(x l a:Addr)(ss:LS)(ns:LN)(us:LQ)(tps qs:LP)(rs:LS):Prop where
 web:WebAt cw H x ss ns
 adj:Adj ss ns tps
 prs:PL H l us qs
 pgo:PGo ss tps qs
 row:H a=some (.lst (rs.map V.str))
 rok:RowG ss tps qs rs
theorem Rw.same{l a:Addr}(h:Rw cw H x l a ss ns us tps qs rs)(s:L2.Same H H'):Rw cw H' x l a ss ns us tps qs rs:=
 ⟨h.web.same s,h.adj,h.prs.same s,h.pgo,s _ _ h.row,h.rok⟩
inductive spUl(cw:Addr)(vs:List V)(H:Hp)(Q:VK)(E:XK):Prop|mk (x a:Addr) (ss:LS) (ns:LN) (rs:LS) (_:vs=[.ref x,.ref a]) (_:WebAt cw H x ss ns) (_:H a=some (.lst (rs.map V.str))) (_:rs.Nodup) (_:rs.length<=1000) (_:(∀ r∈rs,r∈ss)) (_:∀ H',L2.Same H H'->Q (.bl true) H')
inductive spGt(cw:Addr)(vs:List V)(H:Hp)(Q:VK)(E:XK):Prop|mk (x l d a:Addr) (ss:LS) (ns:LN) (us:LQ) (tps qs:LP) (rs:LS) (_:vs=[.ref x,.ref d,.ref a]) (_:Rw cw H x l a ss ns us tps qs rs) (_:H d=some (.dK (prK qs))) (_:∀ H',L2.Same H H'->Q (.bl true) H')
inductive spIr(cw:Addr)(vs:List V)(H:Hp)(Q:VK)(E:XK):Prop|mk (x l a:Addr) (ss:LS) (ns:LN) (us:LQ) (tps qs:LP) (rs:LS) (_:vs=[.ref x,.ref l,.ref a]) (_:Rw cw H x l a ss ns us tps qs rs) (_:∀ H',L2.Same H H'->Q (.bl true) H')
theorem qeS{Q:VK}(q:Q (.bl (decide (pt qs s=some t))) H):qfi K (((pt qs s).map V.str).getD .non) (.str t) H Q:=by
 cases e:pt qs s with
 | none=>rw[e] at q;show .inl (.inl (.inl ⟨rfl,rfl,q⟩))
 | some u =>
  show vEqS ?_;rw[e] at q
  rwa[show decide (u=t)=decide (some u=some t) from YZ.mpr ⟨congrArg some,ym⟩]
theorem ok_tp(F:Fun K "told_pairs" "told_pairs" j0 f fd)(T:Txt K mg cc cw)(S:DefOk P w K mg base CX0 9 "partners_in" ["web","pairs"] (spPn cw))(R:MethOk P w K mg base CX0 7 cw "ties" ["self"] (spTs cw)):FnOk P w K mg base CX0 10 f fd ["web","pairs"] (spTp cw):=by
 show F.ok K9 fun _ _ _ _ H vs Q E J h=>?_
 .obtain⟨x,pl,ss,ns,ps,tps,qs,rfl,C,U,X,W,q⟩:=h;have A:=ze J;obtain⟨wx,dd,ol,nn,hb,_⟩:=id C;show⟨_,(qc (qm (i:=2) K9.nd rfl (Xu rfl) (qp S (hmR J) qz (qa (pv 0) (qa (pv 1) qd))))
 (qe (qo (jG (sc:=qh j0) (XN:=["web","pairs","partners"]) ["tie","partners"] 1 [2] rfl rfl rfl (by room) rfl (by room)
  (qL (K:=K) rfl (qS R (hmR J) (pv 0))) (fun _ _ _ _=>(qk (i:=0) (show(["tie","partners"]:LS).Nodup by room) rfl (yP rfl))) qW
  (fun _ _ _ _=>(ji (qj (zG (K:=K) rfl A) (qau (qfj A) (pv 1) (qt (qu (K:=K) rfl A) (pv 0) qg (fun _ _=>rfl)) ⟨rfl,rfl,rfl,rfl⟩) (qt (qu (K:=K) rfl A) (pv 0) qg (fun _ _=>rfl)) (qw _))))
  (fun _ _ _ _=>(pv 0)))))),?_⟩
  apply⟨x,pl,ss,ns,ps,tps,qs,rfl,C,U,X,W,fun d H1 B Z Y=>?_⟩;apply⟨x,wx,_,rfl,B _ _ hb,j5 (by room),?_⟩;apply⟨x,ss,ns,rfl,C.same B,fun l ts H2 O aa hl D b=>?_⟩;have p:=O _ _ Y;have s:=B.trans O;show .inl ⟨⟨_,.of hl⟩,qK (xs:=ts.map V.ref) (fun i ys G=>G=H2/\∃ us:LQ,ys=us.map V.ref/\us.length<=i/\All2 (fun t ab=>H1 t=none/\H2 t=some (.tup [.str ab.1,.str ab.2])) us (qbh ((qR ss ns ss.length).take i) qs)) ⟨rfl,[],rfl,yh _,.nil⟩ (fun i ys G _ a=>by rw[a.1];show .of hl) (fun i y ys G N a=>?_) fun ys G a=>?_⟩
  .obtain⟨rfl,us,rfl,r,m⟩:=a;rw[yd] at N;obtain⟨t,M,rfl⟩:=yn.mp N;have hi:i<ts.length:=(yc.mp M).1;obtain⟨ab,n⟩:∃ ab,(qR ss ns ss.length)[i]?=some ab:=⟨_,yb (by rw[<- b.len];show hi)⟩;obtain⟨z1,z2,L⟩:=b.at_ i t ab M n
   have c:qbh ((qR ss ns ss.length).take (i+1)) qs=qbh ((qR ss ns ss.length).take i) qs++(if pt qs ab.1=some ab.2 then [ab] else []):=by
    unfold qbh;rw[yH,n,Yc];show _++[ab].filter _=_;rw[yL];simp only[kE,Yw]
   apply qcm ?_;apply⟨d,rfl,.inl ⟨_,.inl p⟩,?_⟩;apply .inl (qaX L (v:=.str ab.1) (qx (j:=0) rfl) ?_);show⟨_,DGet.k (k:=Sum.inr ab.1) p,?_⟩;rw[jU];apply .inl (qaX L (v:=.str ab.2) (qx (j:=1) rfl) ?_);show qeS ?_;ext;rw[c];show qJ (fun I=>?_) (fun I=>?_)
   .rw [yG (yk I)];apply⟨by rw[ya];show qi (by lk),rfl,us++[t],by rw[yC];rfl,by rw[yt];simp;lk,m.snoc ⟨z1,L⟩⟩
   .rw [yE (fun e=>I (yD e)),Yb];show⟨rfl,us,rfl,by lk,m⟩
  .obtain⟨rfl,us,rfl,r,m⟩:=a;have e:(ts.map V.ref).length=(qR ss ns ss.length).length:=by rw[ya,b.len]
   rw[e,yO] at m;rw[ya] at r;show⟨by rw[ya];show yT (qi (by lk)),fun g u=>?_⟩;have s3:=qC s (o:=.lst (us.map V.ref)) u;show q g us _ s3 (s.free u) qb (by lk) (m.mono fun t ab z=>⟨B.free z.1,(fun e=>by rw[e,u] at z;cases z.2),by rw[qf (fun e=>by rw[e,u] at z;cases z.2)];show z.2⟩)
theorem ok_ul(F:Fun K "are_unlike_places" "are_unlike_places" jj f fd)(T:Txt K mg cc cw)(L:MethOk P w K mg base CX0 3 cw "has_place" ["self","thing"] (spHas cw)):FnOk P w K mg base CX0 4 f fd ["web","thing"] (spUl cw):=by
 show F.ok Kv fun _ _ _ _ H vs Q E D h=>?_
 .obtain⟨x,a,ss,ns,rs,rfl,A,l,n,hl,m,q⟩:=h;have G:=ze D;show⟨_,(qc (qM (jm (qX (qr (qaA (K:=K) rfl) rfl T.b_isinstance YR (qa (pv 1) (qa (j3 (v:=.ty "list") rfl T.b_list Xz rfl) qd))))) (qe (qo zi)) qq)
 (qc (qm (i:=2) Kv.nd rfl (yP rfl) jX)
 (qc (jo yZ rfl (qL (K:=K) rfl (pv 1)) (qk (i:=3) Kv.nd rfl (yP rfl))
 (qc (qM (PW.pt (qar (jm (qX (qF L (hmR D) (pv 0) (qa (pv 3) qd)))) (qaj (qj (zt (K:=K) rfl G) (pv 3) (pv 2) (by with_unfolding_all rfl))))) (qe (qo zi)) qq)
 (qe (jw zi (jI (pv 2) (pv 3) (jJ G))))))
 (qe (qo zi))))),?_⟩
  apply qbL (.inl (.lst l)) rfl (qao K "list" (by simp) "list" (by simp)) ?_;apply yq ?_;ext;intro d B;have p:=qC (Sr H) (o:=.dK []) B;have t:upd H d (.dK []) d=some (.dK (qbP [])):=qb;generalize upd H d (.dK [])=H1 at p t;obtain⟨N,R,ol,S,hb,_⟩:=id A;apply .inl ⟨⟨_,.of (p _ _ l)⟩,qN (xs:=rs.map V.str) (fun i j J=>L2.Same H J/\∃ s,j=[some (.ref x),some (.ref a),some (.ref d),s]/\J d=some (.dK (qbP (rs.take i)))) ⟨p,_,rfl,t⟩ (fun i j J _ c=>.of (c.1 _ _ l)) (fun i y j J I c=>?_) fun j J c=>?_⟩
  .obtain⟨g,s,rfl,b⟩:=c;rw[yd] at I;obtain⟨z,hz,rfl⟩:=yn.mp I;have M:i<rs.length:=(yc.mp hz).1;have e:rs.take (i+1)=rs.take i++[z]:=by rw[yH,hz];rfl
   have C:z∉rs.take i:=fun y=>by
    have u:(rs.take (i+1)).Nodup:=n.sublist (XR _ _);rw[e] at u;show(yX.mp u).2.2 _ y z (by simp) rfl
   apply⟨x,N,_,rfl,g _ _ hb,j5 (by room),?_⟩;apply⟨x,ss,ns,z,rfl,A.same g,m z (ye hz),fun O r=>?_⟩;apply yq ?_;apply .inr (.inl ⟨d,_,rfl,DGet.k (k:=Sum.inr z) (r _ _ b),?_⟩);rw[yE (by decide),zQ,yl C];apply yq ?_;apply .inr ⟨d,_,rfl,DPut.k (k:=Sum.inr z) (r _ _ b) (qi (by unfold qbP;rw[ya,yK];lk)),?_⟩;show⟨qaO (g.trans r) B,_,rfl,?_⟩;rw[qb,qbQ C,e]
  .obtain⟨g,s,rfl,b⟩:=c;apply q J g
theorem uG:FnScope ["web","pairs","thing","partners"] ["web","pairs","thing"] (qh qa1):=fS
theorem KE:FnScope ["web","partners","names","steps","paired"] ["web","partners","names"] (qh qT):=fS
theorem KP:FnScope ["web","pairs","thing","partners","first","last"] ["web","pairs","thing"] (qh qaf):=fS
theorem qa2(rs:List V):qct rs (some 1) none=rs.tail:=by
 have:=qaC rs 1
 rwa[List.drop_one] at this
theorem qfp:∀{bs:List Bool},(∀ b∈bs,b=true)->bs.all id=true:=fun h=>Ys.mpr h
theorem qdT{l:Addr}{xs ys:LS}(Z:Zl H H' l ts (xs.map V.str) (ys.map V.str))(hl:qs.length=min xs.length ys.length)(h:∀(j:Nat) q,qs[j]?=some q->xs[j]?=some q.1/\ys[j]?=some q.2):All2 (fun t ab=>H' t=some (.tup [.str ab.1,.str ab.2])) ts qs:=by
 show⟨by rw[Z.len,ya,ya,hl],fun j t ab g c=>?_⟩;obtain⟨d,f⟩:=h j ab c;obtain⟨_,u,v,a,b,e⟩:=Z.tp j t g;rw[yd,d] at a;rw[yd,f] at b;cases a;cases b;show e
theorem atI_back{xs:List α}{v:α}(a:1<=j)(h1:j<=xs.length)(h:xs[xs.length-j]?=some v):atI xs (-(j:Int))=some v:=by
 have e:ixN xs.length (-(j:Int))=some (xs.length-j):=by
  unfold ixN;rw[yE (by lk),yG (by lk)]
  congr 1
  lk
 unfold atI;rw[e];show h
theorem ok_gt(F:Fun K "goes_by_turns" "goes_by_turns" qT f fd)(T:Txt K mg cc cw)(KU:MethOk P w K mg base CX0 7 cw "has_tie" ["self","thing"] (spHt cw)):FnOk P w K mg base CX0 8 f fd ["web","partners","names"] (spGt cw):=by
 show F.ok KE fun _ _ _ _ H vs Q E hr h=>?_
 .obtain⟨x,l,d,a,ss,ns,us,tps,qs,rs,rfl,R,hd,q⟩:=h;have hu:=ze hr;obtain⟨wx,dd,ol,nn,hb,_⟩:=id R.web;have ha:=R.row;have M:=R.rok;have hl:=M.few;show⟨_,(qc (qm (i:=3) KE.nd rfl (yP rfl) (qcI (K:=K) rfl rfl rfl rfl T.b_list T.b_zip (qa (pv 2) (qa (jt (qdj (K:=K) rfl) (pv 2) (jr qg) j4) qd))))
 (qc (qM (jm (qX (qr (qeK (K:=K) rfl rfl) rfl T.b_all boot_all (qa (jG (sc:=qh qT) (XN:=["web","partners","names","steps","paired"]) ["step","web"] 1 [0] rfl rfl rfl (by room) rfl (by room)
  (qL (K:=K) rfl (pv 3)) (fun _ _ _ _=>(qk (i:=0) (show(["step","web"]:LS).Nodup by room) rfl (yP rfl))) qW
  (fun _ _ _ _=>zm)
  (fun _ _ _ _=>(qF KU (hmR hr) (pv 1) (qa (pv 0) qd)))) qd)))) (qe (qo zi)) qq)
 (qc (zN (sc:=qh qT) (XN:=["web","partners","names","steps","paired"]) ["step","partners"] 1 [1] rfl rfl rfl (by room) rfl (by room) (i:=4) KE.nd rfl rfl
  (qL (K:=K) rfl (pv 3)) (fun _ _ _ _=>(qk (i:=0) (show(["step","partners"]:LS).Nodup by room) rfl (yP rfl))) qW
  (fun _ _ _ _=>zm)
  (fun _ _ _ _=>(jq (zG (K:=K) rfl hu) (qau (qfj hu) (pv 1) (qt (qu (K:=K) rfl hu) (pv 0) qg (fun _ _=>rfl)) ⟨rfl,rfl,rfl,rfl⟩) (qt (qu (K:=K) rfl hu) (pv 0) qg (fun _ _=>rfl)) (qw _))))
 (qe (qo (qr (qeK (K:=K) rfl rfl) rfl T.b_all boot_all (qa (jG (sc:=qh qT) (XN:=["web","partners","names","steps","paired"]) ["one","other"] 2 [] rfl rfl rfl (by room) rfl (by room)
  (pi_zip (K:=K) rfl rfl T.b_zip (qa (pv 4) (qa (jt (qdj (K:=K) rfl) (pv 4) (jr qg) j4) qd))) (fun _ _ _ _=>(qbp (n:=2) rfl (jB (qk (i:=0) (show(["one","other"]:LS).Nodup by room) rfl (yP rfl)) (jB (qk (i:=1) (show(["one","other"]:LS).Nodup by room) rfl (yP rfl)) qaM)))) gk_two
  (fun _ _ _ _=>zm)
  (fun _ _ _ _=>(jq (qaB (K:=K) rfl hu) (pv 0) (pv 1) (qw _)))) qd))))))),?_⟩
  apply vLZ ?_;apply .inl ⟨a,_,rfl,SqL.of ha,fun c hc=>?_⟩;rw[qa2,<- kI];have s1:=qC (Sr H) (o:=.lst (rs.tail.map V.str)) hc;have Y:upd H c (.lst (rs.tail.map V.str)) c=some (.lst (rs.tail.map V.str)):=qb;generalize upd H c (.lst (rs.tail.map V.str))=H1 at s1 Y;apply⟨a,c,_,_,rfl,SqL.of (s1 _ _ ha),SqL.of Y,by rw[ya];show hl,fun l ts H2 Z=>?_⟩;have L:=s1.trans Z.sm;have aj:(stp rs).length<=1000:=by rw[qaq];lk
  have W:=qdT (qs:=stp rs) Z (by rw[qaq,Xd];lk) fun j q e=>by
   obtain⟨z1,z2⟩:=stp_at.mp e;show⟨z1,by rw[Xk];show z2⟩
  have tl:=W.len;have C:=Z.ls
  have ah:∀{i:Nat} {y:V},(ts.map V.ref)[i]?=some y->∃ t ab,y=.ref t/\(stp rs)[i]?=some ab/\H2 t=some (.tup [.str ab.1,.str ab.2]):=fun{i y} O=>by
   rw[yd] at O;obtain⟨t,ht,rfl⟩:=yn.mp O;obtain⟨ab,p⟩:∃ ab,(stp rs)[i]?=some ab:=⟨_,yb (by rw[<- tl];show(yc.mp ht).1)⟩;show⟨t,ab,rfl,p,W.at_ i t ab ht p⟩
  apply .inl ⟨⟨_,.of C⟩,qK (xs:=ts.map V.ref) (fun i ys G=>L2.Same H2 G/\ys=(((stp rs).take i).map fun _=>true).map V.bl) ⟨L2.Same.refl H2,rfl⟩ (fun i ys G _ m=>.of (m.1 _ _ C)) (fun i y ys G O m=>?_) fun ys G m=>?_⟩
  .obtain⟨S,rfl⟩:=m;obtain⟨t,ab,rfl,p,N⟩:=ah O;obtain⟨e1,U⟩:=stp_at.mp p;apply zA ?_;apply⟨x,wx,_,rfl,(L.trans S) _ _ hb,j5 (by room),?_⟩;apply⟨x,t,ss,ns,tps,ab,rfl,R.web.same (L.trans S),R.adj,S _ _ N,(M.tie i ab p).1,M.inn _ (ye e1),M.inn _ (ye U),fun z=>?_,fun G2 al=>?_⟩
   .rw [<- z] at U;show absurd (qG M.nd e1 U) (by lk)
   .show⟨by rw[ya,ya,yK];show qi (by lk),S.trans al,?_⟩;rw[yH,p,yC,yC];rfl
  .obtain⟨S,rfl⟩:=m;rw[show(ts.map V.ref).length=(stp rs).length by rw[ya,tl],yO];show⟨by rw[ya,ya];show yT (qi (by lk)),fun g hg=>?_⟩;have s3:=qC S (o:=.lst (((stp rs).map fun _=>true).map V.bl)) hg;have eg:upd G g (.lst (((stp rs).map fun _=>true).map V.bl)) g=some (.lst (((stp rs).map fun _=>true).map V.bl)):=qb;generalize upd G g (.lst (((stp rs).map fun _=>true).map V.bl))=G3 at s3 eg;apply⟨g,_,rfl,SqL.of eg,_,rfl,?_⟩;rw[qfp (fun b hb=>by obtain⟨_,_,rfl⟩:=YH.mp hb;rfl)];have af:=L.trans s3;show yq ?_;have r:=s3 _ _ C;have ac:=af _ _ hd;apply .inl ⟨⟨_,.of r⟩,qK (xs:=ts.map V.ref) (fun i ys G=>G=G3/\ys=(((stp rs).take i).map (prB qs)).map V.bl) ⟨rfl,rfl⟩ (fun i ys G _ m=>by rw[m.1];show .of r) (fun i y ys G O m=>?_) fun ys G m=>?_⟩
   .obtain⟨rfl,rfl⟩:=m;obtain⟨t,ab,rfl,p,N⟩:=ah O;have N:=s3 _ _ N;apply zA ?_;apply qcm ?_;apply⟨d,rfl,.inl ⟨_,.inl ac⟩,?_⟩;apply .inl (qaX N (v:=.str ab.1) (qx (j:=0) rfl) ?_);show⟨_,DGet.k (k:=Sum.inr ab.1) ac,?_⟩;rw[jU];apply .inl (qaX N (v:=.str ab.2) (qx (j:=1) rfl) ?_);show qeS ?_;show⟨by rw[ya,ya,yK];show qi (by lk),rfl,?_⟩;rw[yH,p,yC,yC];rfl
   .obtain⟨rfl,rfl⟩:=m;rw[show(ts.map V.ref).length=(stp rs).length by rw[ya,tl],yO];show⟨by rw[ya,ya];show yT (qi (by lk)),fun b ai=>?_⟩;obtain⟨bs,B⟩:∃ bs,bs=(stp rs).map (prB qs):=⟨_,rfl⟩;rw[<- B];have am:bs.length<=1000:=by rw[B,ya];show aj
    have X:∀(i:Nat) b,bs[i]?=some b->b=decide (i % 2=1):=fun i b e=>by
     rw[B,yd] at e;obtain⟨ab,p,rfl⟩:=yn.mp e;show(M.tie i ab p).2
    have s4:=qC af (o:=.lst (bs.map V.bl)) ai;have eb:upd G b (.lst (bs.map V.bl)) b=some (.lst (bs.map V.bl)):=qb;generalize upd G b (.lst (bs.map V.bl))=G4 at s4 eb;apply vZip ?_;apply .inl ⟨b,_,rfl,SqL.of eb,fun c2 aa=>?_⟩;rw[qa2,<- kI];have s5:=qC s4 (o:=.lst (bs.tail.map V.bl)) aa;have s:=qC (Sr G4) (o:=.lst (bs.tail.map V.bl)) aa _ _ eb;have A:upd G4 c2 (.lst (bs.tail.map V.bl)) c2=some (.lst (bs.tail.map V.bl)):=qb;generalize upd G4 c2 (.lst (bs.tail.map V.bl))=G5 at s5 s A;apply⟨b,c2,_,_,rfl,SqL.of s,SqL.of A,comp_zip (xs:=bs.map V.bl) (ys:=bs.tail.map V.bl) (by simp) (fun i zs J=>L2.Same G5 J/\zs=(List.replicate i true).map V.bl) ⟨L2.Same.refl G5,rfl⟩ (fun i zs J _ m=>⟨SqL.of (m.1 _ _ s),SqL.of (m.1 _ _ A)⟩) (fun i u v t zs J D I ht m=>?_) fun zs J m=>?_⟩
    .obtain⟨sJ,rfl⟩:=m;rw[yd] at D I;obtain⟨u,ad,rfl⟩:=yn.mp D;obtain⟨v,ae,rfl⟩:=yn.mp I;clear D I;have an:=(yc.mp ad).1;rw[Xk] at ae;have e1:=X _ _ ad;have U:=X _ _ ae;have ag:=qC sJ (o:=.tup [.bl u,.bl v]) ht;show⟨t,_,rfl,.of qb,rfl,_,_,rfl,_,_,rfl,rfl,?_⟩;generalize upd J t (.tup [.bl u,.bl v])=J3 at ag;apply zA ?_;apply .inl ⟨rfl,rfl,?_⟩;show⟨by rw[ya,YX];show qi (by lk),ag,?_⟩
     have ak:v=!u:=by
      rw[e1,U];rcases Nat.mod_two_eq_zero_or_one i with z | z
      .rw [z,yD (by lk)];rfl
      .rw [z,yl (by lk)];rfl
     rw[List.replicate_succ',yC,ak];cases u<;>rfl
    .obtain⟨sJ,rfl⟩:=m;rw[show(bs.tail.map V.bl).length=bs.length-1 by rw[ya,Xd]];show⟨by rw[ya,YX];show yT (qi (by lk)),fun e he=>?_⟩;have s6:=qC (s5.trans sJ) (o:=.lst ((List.replicate (bs.length-1) true).map V.bl)) he;have ee:upd J e (.lst ((List.replicate (bs.length-1) true).map V.bl)) e=some (.lst ((List.replicate (bs.length-1) true).map V.bl)):=qb;generalize upd J e (.lst ((List.replicate (bs.length-1) true).map V.bl))=J6 at s6 ee;apply⟨e,_,rfl,SqL.of ee,?_⟩;rw[qfp (fun b hb=>(List.mem_replicate.mp hb).2)];show q J6 s6
theorem ok_ir(F:Fun K "is_row" "is_row" qa1 f fd)(T:Txt K mg cc cw)(m:DefOk P w K mg base CX0 9 "partners_in" ["web","pairs"] (spPn cw))(r:DefOk P w K mg base CX0 4 "are_unlike_places" ["web","thing"] (spUl cw))(s:DefOk P w K mg base CX0 8 "goes_by_turns" ["web","partners","names"] (spGt cw)):FnOk P w K mg base CX0 10 f fd ["web","pairs","thing"] (spIr cw):=by
 show F.ok uG fun _ _ _ _ H vs Q E c h=>?_
 .obtain⟨x,l,a,ss,ns,us,tps,qs,rs,rfl,R,q⟩:=h;have u:=ze c;have G:=R.rok;have t:=G.two;show⟨_,(qc (qm (i:=3) uG.nd rfl (yP rfl) (qp m (hmR c) qz (qa (pv 0) (qa (pv 1) qd))))
 (qc (qM (PW.pt (qar (jm (qX (qp r (hmR c) qz (qa (pv 0) (qa (pv 2) qd))))) (qaj (qj qdc (qr (zj (K:=K) rfl) rfl T.b_len YS (qa (pv 2) qd)) qg (qw _))))) (qe (qo zi)) qq)
 (qe (qo (qp s (hmR c) qz (qa (pv 0) (qa (pv 3) (qa (pv 2) qd)))))))),?_⟩
  apply⟨x,l,ss,ns,us,tps,qs,rfl,R.web,R.adj,R.prs,R.pgo,fun d H1 e o n=>?_⟩;apply⟨x,a,ss,ns,rs,rfl,R.web.same e,e _ _ R.row,G.nd,G.few,G.inn,fun H2 g=>?_⟩;have b:=e.trans g;apply yq ?_;apply .inl ⟨_,.inl (SqL.of (b _ _ R.row)),?_⟩;rw[ya];apply qJ (fun h=>absurd (yk h) (by lk)) fun _=>?_;apply⟨x,l,d,a,ss,ns,us,tps,qs,rs,rfl,R.same b,g _ _ n,fun j p=>q j (b.trans p)⟩
theorem qex{t:Addr}{n:Str}{Q:VK}(e:H t=some (.tup [.non,.str n]))(q:Q (.bl true) H):qdC K false .non (.ref t) H Q:=
 .inl ⟨t,_,rfl,.inr (SqT.of e),rfl,rfl,q⟩
theorem ok_ct(F:Fun K "can_turn" "can_turn" qaf f fd)(T:Txt K mg cc cw)(I:DefOk P w K mg base CX0 9 "partners_in" ["web","pairs"] (spPn cw))(J:DefOk P w K mg base CX0 10 "is_row" ["web","pairs","thing"] (spIr cw)):FnOk P w K mg base CX0 11 f fd ["web","pairs","thing"] (spIr cw):=by
 show F.ok KP fun _ _ _ _ H vs Q E u h=>?_
 .obtain⟨x,l,a,ss,ns,us,tps,qs,rs,rfl,R,q⟩:=h;have b:=ze u;have G:=R.rok;have W:=G.two;show⟨_,(qc (qM (jm (qX (qp J (hmR u) qz (qa (pv 0) (qa (pv 1) (qa (pv 2) qd)))))) (qe (qo zi)) qq)
 (qc (qm (i:=3) KP.nd rfl (yP rfl) (qp I (hmR u) qz (qa (pv 0) (qa (pv 1) qd))))
 (qc (qm (i:=4) KP.nd rfl (yP rfl) (qau (qfj b) (pv 3) (qt (qu (K:=K) rfl b) (pv 2) qg (fun _ _=>rfl)) ⟨rfl,rfl,rfl,rfl⟩))
 (qc (qm (i:=5) KP.nd rfl (yP rfl) (qau (qfj b) (pv 3) (qt (qu (K:=K) rfl b) (pv 2) (qbF qas qg) (fun _ _=>rfl)) ⟨rfl,rfl,rfl,rfl⟩))
 (qe (qo (qbo (jq (zt (K:=K) rfl b) (pv 4) (jS (qa zk (qa (qt (qu (K:=K) rfl b) (pv 2) qg (fun _ _=>rfl)) qd))) (by with_unfolding_all rfl)) (qa4 (jq (zt (K:=K) rfl b) (pv 5) (jS (qa zk (qa (qt (qu (K:=K) rfl b) (pv 2) (qbF qas qg) (fun _ _=>rfl)) qd))) (by with_unfolding_all rfl)))))))))),?_⟩
  apply⟨x,l,a,ss,ns,us,tps,qs,rs,rfl,R,fun H1 z=>?_⟩;show⟨_,rfl,qJ (fun h=>by cases h) fun _=>?_⟩;apply⟨x,l,ss,ns,us,tps,qs,rfl,R.web.same z,R.adj,R.prs.same z,R.pgo,fun d H2 S M p=>?_⟩;obtain⟨s,B⟩:∃ s,rs[0]?=some s:=⟨_,yb (by lk)⟩;obtain⟨g,L⟩:∃ g,rs[1]?=some g:=⟨_,yb (by lk)⟩;obtain⟨r,D⟩:∃ r,rs[rs.length-1]?=some r:=⟨_,yb (by lk)⟩;obtain⟨m1,O⟩:∃ m1,rs[rs.length-2]?=some m1:=⟨_,yb (by lk)⟩;have m:=z.trans S;have C:=R.row;have c:=m _ _ C;have at_:∀{j:Nat} {n:Str},rs[j]?=some n->(rs.map V.str)[j]?=some (.str n):=fun e=>by rw[yd,e];rfl
  have back:∀{j:Nat} {n:Str},1<=j->j<=rs.length->rs[rs.length-j]?=some n->atI (rs.map V.str) (-(j:Int))=some (.str n):=fun l1 l2 e=>atI_back l1 (by rw[ya];show l2) (by rw[ya];show at_ e);apply qcm ?_;apply⟨d,rfl,.inl ⟨_,.inl p⟩,?_⟩;apply .inl (zX c (v:=.str s) (qx (j:=0) (at_ B)) ?_);show⟨_,DGet.k (k:=Sum.inr s) p,?_⟩;rw[jU,G.hd _ B];apply qcm ?_;apply⟨d,rfl,.inl ⟨_,.inl p⟩,?_⟩;apply⟨1,rfl,?_⟩;show .inl (zX c (v:=.str r) (back (j:=1) (by decide) (by lk) D) ?_);show⟨_,DGet.k (k:=Sum.inr r) p,?_⟩;rw[jU,G.tl _ D];apply .inl (zX c (v:=.str g) (qx (j:=1) (at_ L)) ?_);apply⟨by show 2<=sizeLine;decide,fun t N=>qex qb ?_⟩;have A:=qC m (o:=.tup [.non,.str g]) N;generalize upd H2 t (.tup [.non,.str g])=U at A;show⟨_,rfl,zA ?_⟩;apply⟨2,rfl,?_⟩;show .inl (zX (A _ _ C) (v:=.str m1) (back (j:=2) (by decide) (by lk) O) ?_);apply⟨by show 2<=sizeLine;decide,fun X y=>qex qb (q _ (qC A y))⟩
theorem ue:FnScope ["web","pairs","row","partners","steps"] ["web","pairs","row"] (qh qaI):=fS
noncomputable def qdU(rs:LS):LP:=stp rs++(stp rs).map fun q=>(q.2,q.1)
noncomputable def flT(a qs:LP)(rs:LS):LP:=a.filter fun q=>decide (pt qs q.1=some q.2) != decide (q∈qdU rs)
inductive spTu(cw:Addr)(vs:List V)(H:Hp)(Q:VK)(E:XK):Prop|mk (x l a:Addr) (ss:LS) (ns:LN) (us:LQ) (tps qs:LP) (rs:LS) (_:vs=[.ref x,.ref l,.ref a]) (_:Rw cw H x l a ss ns us tps qs rs) (_:∀(l:Addr) (ls:LQ) (H':Hp),L2.Same H H'->H l=none->H' l=some (.lst (ls.map V.ref))->ls.length<=196->All2 (PrAt H H' l) ls (flT (qR ss ns ss.length) qs rs)->Q (.ref l) H')
theorem All2.app9{R:α->β->Prop}{l1 l2:List α}{m1 f:List β}(a:All2 R l1 m1)(b:All2 R l2 f):All2 R (l1++l2) (m1++f):=by
 show⟨by rw[yt,yt,a.len,b.len],fun k x y c d=>?_⟩;by_cases e:k<l1.length
 .rw [yF e] at c;rw[yF (by rw[<- a.len];show e)] at d;show a.at_ k x y c d
 .rw [yB (by lk)] at c;rw[yB (by rw[<- a.len];lk),<- a.len] at d;show b.at_ _ x y c d
theorem cat_W{a b:Addr}{Q:VK}(c:G a=some (.lst xs))(d:G b=some (.lst ys))(hl:xs.length+ys.length<=2000)(q:∀ p,G p=none->Q (.ref p) (upd G p (.lst (xs++ys)))):qdh K (.ref a) (.ref b) G Q:=.inl ⟨a,b,_,_,rfl,rfl,c,d,yi hl (by decide),q⟩
theorem ok_tu(F:Fun K "turned" "turned" qaI f fd)(T:Txt K mg cc cw)(Kl:DefOk P w K mg base CX0 9 "partners_in" ["web","pairs"] (spPn cw))(KJ:MethOk P w K mg base CX0 7 cw "ties" ["self"] (spTs cw))(u6:DefOk P w K mg base CX0 11 "can_turn" ["web","pairs","thing"] (spIr cw)):FnOk P w K mg base CX0 12 f fd ["web","pairs","row"] (spTu cw):=by
 show F.ok ue fun _ _ _ _ H vs Q E hr h=>?_
 .obtain⟨x,pl,a,ss,ns,ps,tps,qs,rs,rfl,R,q⟩:=h;have u:=ze hr;obtain⟨wx,dd,ol,nn,hb,_⟩:=id R.web;have ha:=R.row;have ah:=R.rok.few;have h2:=R.rok.two;show⟨_,(qc (qM (jm (qX (qp u6 (hmR hr) qz (qa (pv 0) (qa (pv 1) (qa (pv 2) qd)))))) (qe jK) qq)
 (qc (qm (i:=3) ue.nd rfl (Xu rfl) (qp Kl (hmR hr) qz (qa (pv 0) (qa (pv 1) qd))))
 (qc (qm (i:=4) ue.nd rfl (Xu rfl) (qE (j6 (K:=K) rfl) (qcI (K:=K) rfl rfl rfl rfl T.b_list T.b_zip (qa (pv 2) (qa (jt (qdj (K:=K) rfl) (pv 2) (jr qg) j4) qd))) (qcI (K:=K) rfl rfl rfl rfl T.b_list T.b_zip (qa (jt (qdj (K:=K) rfl) (pv 2) (jr qg) j4) (qa (pv 2) qd)))))
 (qe (qo (jG (sc:=qh qaI) (XN:=["web","pairs","row","partners","steps"]) ["tie","steps","partners"] 1 [4,3] rfl rfl rfl (by room) rfl (by room)
  (qL (K:=K) rfl (qS KJ (hmR hr) (pv 0))) (fun _ _ _ _=>(qk (i:=0) (show(["tie","steps","partners"]:LS).Nodup by room) rfl (yP rfl))) qW
  (fun _ _ _ _=>(ji (qj (qaB (K:=K) rfl u) (jq (zG (K:=K) rfl u) (qau (qfj u) (pv 2) (qt (qu (K:=K) rfl u) (pv 0) qg (fun _ _=>rfl)) ⟨rfl,rfl,rfl,rfl⟩) (qt (qu (K:=K) rfl u) (pv 0) qg (fun _ _=>rfl)) (qw _)) (jq (zt (K:=K) rfl u) (pv 0) (pv 1) (by with_unfolding_all rfl)) (qw _))))
  (fun _ _ _ _=>(pv 0)))))))),?_⟩
  apply⟨x,pl,a,ss,ns,ps,tps,qs,rs,rfl,R,fun H1 s1=>?_⟩;show⟨_,rfl,qJ (fun h=>by cases h) fun _=>?_⟩;apply⟨x,pl,ss,ns,ps,tps,qs,rfl,R.web.same s1,R.adj,R.prs.same s1,R.pgo,fun d H2 s2 ai hd=>?_⟩;have N:=s1.trans s2;have n:=N _ _ ha;apply vLZ ?_;apply .inl ⟨a,_,rfl,SqL.of n,fun Z ac=>?_⟩;rw[qa2,<- kI];have t1:=qC (Sr H2) (o:=.lst (rs.tail.map V.str)) ac;have A:upd H2 Z (.lst (rs.tail.map V.str)) Z=some (.lst (rs.tail.map V.str)):=qb;generalize upd H2 Z (.lst (rs.tail.map V.str))=G1 at t1 A;apply⟨a,Z,_,_,rfl,SqL.of (t1 _ _ n),SqL.of A,by rw[ya];show ah,fun l1 b G2 Z1=>?_⟩;have t2:=t1.trans Z1.sm;apply vLZ ?_;apply .inl ⟨a,_,rfl,SqL.of (t2 _ _ n),fun c2 ad=>?_⟩;rw[qa2,<- kI];have t3:=qC (Sr G2) (o:=.lst (rs.tail.map V.str)) ad;have B:upd G2 c2 (.lst (rs.tail.map V.str)) c2=some (.lst (rs.tail.map V.str)):=qb;generalize upd G2 c2 (.lst (rs.tail.map V.str))=G3 at t3 B;have S:=t2.trans t3;apply⟨c2,a,_,_,rfl,SqL.of B,SqL.of (S _ _ n),by rw[ya,Xd];lk,fun l2 c G4 Y=>?_⟩;have t4:=S.trans Y.sm;have U:=t3.trans Y.sm
  have A1:=qdT (qs:=stp rs) Z1 (by rw[qaq,Xd];lk) fun j q e=>by
   obtain⟨X,z2⟩:=stp_at.mp e;show⟨X,by rw[Xk];show z2⟩
  have A2:=qdT (qs:=(stp rs).map fun q=>(q.2,q.1)) Y (by rw[ya,qaq,Xd];lk) fun j q e=>by
   rw[yd] at e;obtain⟨q',e',rfl⟩:=yn.mp e;obtain⟨X,z2⟩:=stp_at.mp e';show⟨by rw[Xk];show z2,X⟩
  have ak:b.length<=1000:=by rw[A1.len,qaq];lk
  have al:c.length<=1000:=by rw[A2.len,ya,qaq];lk
  show cat_W (U _ _ Z1.ls) Y.ls (by rw[ya,ya,A1.len,A2.len,ya,qaq];lk) fun st ag=>?_;have t5:=qC (Sr G4) (o:=.lst (b.map V.ref++c.map V.ref)) ag;have C:upd G4 st (.lst (b.map V.ref++c.map V.ref)) st=some (.lst (b.map V.ref++c.map V.ref)):=qb;generalize upd G4 st (.lst (b.map V.ref++c.map V.ref))=G5 at t5 C;have W:=t4.trans t5;have aa:PL G5 st (b++c) (qdU rs):=⟨by rw[yC];show C,All2.app9 (A1.mono fun _ _ z=>(U.trans t5) _ _ z) (A2.mono fun _ _ z=>t5 _ _ z)⟩;have p:=N.trans W;have ae:=W _ _ hd;apply⟨x,wx,_,rfl,p _ _ hb,j5 (by room),?_⟩;apply⟨x,ss,ns,rfl,R.web.same p,fun l ts G6 s6 aj hl af r=>?_⟩;have O:=p.trans s6;have L:=s6 _ _ ae;have D:=aa.same s6;show .inl ⟨⟨_,.of hl⟩,qK (xs:=ts.map V.ref) (fun i ys G=>G=G6/\∃ us:LQ,ys=us.map V.ref/\us.length<=i/\All2 (fun t ab=>G5 t=none/\G6 t=some (.tup [.str ab.1,.str ab.2])) us (flT ((qR ss ns ss.length).take i) qs rs)) ⟨rfl,[],rfl,yh _,.nil⟩ (fun i ys G _ m=>by rw[m.1];show .of hl) (fun i y ys G hy m=>?_) fun ys G m=>?_⟩
  .obtain⟨rfl,us,rfl,M,I⟩:=m;rw[yd] at hy;obtain⟨t,ht,rfl⟩:=yn.mp hy;have hi:i<ts.length:=(yc.mp ht).1;obtain⟨ab,J⟩:∃ ab,(qR ss ns ss.length)[i]?=some ab:=⟨_,yb (by rw[<- r.len];show hi)⟩;obtain⟨X,z2,z3⟩:=r.at_ i t ab ht J
   have s:flT ((qR ss ns ss.length).take (i+1)) qs rs=flT ((qR ss ns ss.length).take i) qs rs++(if (decide (pt qs ab.1=some ab.2) != decide (ab∈qdU rs))=true then [ab] else []):=by
    unfold flT;rw[yH,J,Yc];show _++[ab].filter _=_;rw[yL,Yw]
   apply qcm ?_;apply⟨d,rfl,.inl ⟨_,.inl L⟩,?_⟩;apply .inl (qaX z3 (v:=.str ab.1) (qx (j:=0) rfl) ?_);show⟨_,DGet.k (k:=Sum.inr ab.1) L,?_⟩;rw[jU];apply .inl (qaX z3 (v:=.str ab.2) (qx (j:=1) rfl) ?_);show qeS ?_;apply qfn D z3 ?_;show .inl ⟨rfl,rfl,?_⟩;have eb:eqV (.bl (decide (pt qs ab.1=some ab.2))) (.bl (decide ((ab.1,ab.2)∈qdU rs)))=(decide (pt qs ab.1=some ab.2)==decide (ab∈qdU rs)):=rfl;rw[yG rfl,eb,s];show⟨_,rfl,?_⟩;show if (decide (pt qs ab.1=some ab.2) != decide (ab∈qdU rs))=true then _ else _
   cases am:(decide (pt qs ab.1=some ab.2) != decide (ab∈qdU rs)) with
   | true =>
    show zA ?_;rw[yG rfl];apply⟨by rw[ya];show qi (by lk),rfl,us++[t],by rw[yC];rfl,by rw[yt];simp;lk,I.snoc ⟨X,z3⟩⟩
   | false =>
    show yq ?_;rw[yE (by decide),Yb];show⟨rfl,us,rfl,by lk,I⟩
  .obtain⟨rfl,us,rfl,M,I⟩:=m;have e:(ts.map V.ref).length=(qR ss ns ss.length).length:=by rw[ya,r.len]
   rw[e,yO] at I;rw[ya] at M;show⟨by rw[ya];show yT (qi (by lk)),fun g hg=>?_⟩;have s7:=qC O (o:=.lst (us.map V.ref)) hg;show q g us _ s7 (O.free hg) qb (by lk) (I.mono fun t ab z=>⟨p.free z.1,(fun e=>by rw[e,hg] at z;cases z.2),by rw[qf (fun e=>by rw[e,hg] at z;cases z.2)];show z.2⟩)
def adjR(rs:LS)(a b:Str):Prop:=∃ j:Nat,(rs[j]?=some a/\rs[j+1]?=some b)\/(rs[j]?=some b/\rs[j+1]?=some a)
theorem adjR.symm(h:adjR rs a b):adjR rs b a:=h.elim fun j z=>⟨j,z.symm⟩
theorem adjR.mem(h:adjR rs a b):a∈rs/\b∈rs:=h.elim fun j z=>z.elim (fun y=>⟨ye y.1,ye y.2⟩) fun y=>⟨ye y.2,ye y.1⟩
structure TurnR(f:Str->Option Str)(rs:LS):Prop where
 nd:rs.Nodup
 two:2<=rs.length
 sym:∀ a b,f a=some b->f b=some a
 alt:∀(j:Nat) r s t,rs[j]?=some r->rs[j+1]?=some s->rs[j+2]?=some t->(f s=some r↔¬ f s=some t)
 fst:∀ s t,rs[0]?=some s->rs[1]?=some t->f s=none\/f s=some t
 lst:∀ s t,rs[rs.length-1]?=some s->rs[rs.length-2]?=some t->f s=none\/f s=some t
theorem TurnR.near{f:Str->Option Str}(h:TurnR f rs)(n:a∈rs)(c:f a=some b):adjR rs a b:=by
 obtain⟨i,d⟩:=yf n;have o:i<rs.length:=(yc.mp d).1;have p:=h.two;by_cases m:i=0
 .subst m;obtain⟨t,e⟩:∃ t,rs[1]?=some t:=⟨_,yb (by lk)⟩;rcases h.fst a t d e with z | z
  .rw [z] at c;cases c
  .rw [c] at z;cases z;show⟨0,.inl ⟨d,e⟩⟩
 .by_cases hl:i=rs.length-1
  .obtain⟨t,e⟩:∃ t,rs[rs.length-2]?=some t:=⟨_,yb (by lk)⟩;rcases h.lst a t (by rw[<- hl];show d) e with z | z
   .rw [z] at c;cases c
   .rw [c] at z;cases z;show⟨rs.length-2,.inr ⟨e,by rw[show rs.length-2+1=i by lk];show d⟩⟩
  .obtain⟨r,l⟩:∃ r,rs[i-1]?=some r:=⟨_,yb (by lk)⟩;obtain⟨t,e⟩:∃ t,rs[i+1]?=some t:=⟨_,yb (by lk)⟩;have g:i-1+1=i:=by lk
   have j:i-1+2=i+1:=by lk
   have:=h.alt (i-1) r a t l (by rw[g];show d) (by rw[j];show e);by_cases z:f a=some t
   .rw [c] at z;cases z;show⟨i,.inl ⟨d,e⟩⟩
   .have z:=this.mpr z;rw[c] at z;cases z;show⟨i-1,.inr ⟨l,by rw[g];show d⟩⟩
def flipR(f:Str->Option Str)(rs:LS)(a b:Str):Prop:=(a∉rs/\f a=some b)\/(adjR rs a b/\f a≠some b)
theorem TurnR.xor{f:Str->Option Str}(h:TurnR f rs):flipR f rs a b↔¬ (f a=some b↔adjR rs a b):=by
 unfold flipR;constructor
 .rintro (⟨h1,c⟩ | ⟨h1,c⟩) e
  .show h1 (e.mp c).mem.1
  .show c (e.mpr h1)
 .intro e;by_cases h1:f a=some b
  .show .inl ⟨fun d=>e ⟨fun _=>h.near d h1,fun _=>h1⟩,h1⟩
  .by_cases c:adjR rs a b
   .show .inr ⟨c,h1⟩
   .show absurd ⟨fun z=>absurd z h1,fun z=>absurd z c⟩ e
theorem flipR.symm{f:Str->Option Str}(h:TurnR f rs)(e:flipR f rs a b):flipR f rs b a:=by
 rcases e with⟨h1,c⟩ | ⟨h1,c⟩
 .show .inl ⟨fun d=>?_,h.sym _ _ c⟩;show h1 (h.near d (h.sym _ _ c)).mem.2
 .show .inr ⟨h1.symm,fun z=>c (h.sym _ _ z)⟩
theorem adjR.at_(nd:rs.Nodup)(d:rs[i]?=some a)(h:adjR rs a b):rs[i+1]?=some b\/(1<=i/\rs[i-1]?=some b):=by
 obtain⟨j,⟨h1,c⟩ | ⟨h1,c⟩⟩:=h
 .have:=qG nd d h1;subst this;show .inl c
 .have:=qG nd d c;subst this;show .inr ⟨by lk,by simpa using h1⟩
theorem flipR.one{f:Str->Option Str}(h:TurnR f rs){c:Str}(o:flipR f rs a b)(n:flipR f rs a c):b=c:=by
 rcases o with⟨h1,g⟩ | ⟨h1,g⟩
 .rcases n with⟨e,d⟩ | ⟨e,d⟩
  .rw [g] at d;show ym d
  .show absurd e.mem.1 h1
 .rcases n with⟨e,d⟩ | ⟨e,d⟩
  .show absurd h1.mem.1 e
  .obtain⟨i,j⟩:=yf h1.mem.1
   have key:∀{b c:Str},rs[i+1]?=some b->1<=i->rs[i-1]?=some c->f a≠some b->f a≠some c->False:=fun hb p hc q r=>by
    have l:i-1+1=i:=by lk
    have m:i-1+2=i+1:=by lk
    show r ((h.alt (i-1) _ a _ hc (by rw[l];show j) (by rw[m];show hb)).mpr q)
   rcases h1.at_ h.nd j with z1 | ⟨l1,z1⟩<;>rcases e.at_ h.nd j with z2 | ⟨l2,z2⟩
   .rw [z1] at z2;show ym z2
   .show(key z1 l2 z2 g d).elim
   .show(key z2 l1 z1 d g).elim
   .rw [z1] at z2;show ym z2
theorem TurnR.again{f:Str->Option Str}(h:TurnR f rs)(l:∀ a b,g a=some b↔flipR f rs a b):TurnR g rs:=by
 have on:∀{a b:Str},adjR rs a b->(g a=some b↔¬ f a=some b):=fun i=>by
  rw[l,h.xor];constructor
  .show fun e z=>e ⟨fun _=>i,fun _=>z⟩
  .show fun e z=>e (z.mpr i)
 have only:∀{a b:Str},a∈rs->g a=some b->adjR rs a b:=fun p e=>by
  rcases(l _ _).mp e with⟨h1,_⟩ | ⟨h1,_⟩
  .show absurd p h1
  .show h1
 show⟨h.nd,h.two,fun a b e=>(l _ _).mpr (((l _ _).mp e).symm h),fun j r s t m c d=>?_,fun s t c d=>?_,fun s t c d=>?_⟩
 .have n:adjR rs s r:=⟨j,.inr ⟨m,c⟩⟩;have o:adjR rs s t:=⟨j+1,.inl ⟨c,d⟩⟩;rw[on n,on o,h.alt j r s t m c d]
 .cases e:g s with
  | none=>show .inl rfl
  | some b =>
   have:=(only (ye c) e).at_ h.nd c;rcases this with z | ⟨z,_⟩
   .rw [d] at z;show .inr (by rw[<- e,e];show z.symm ▸ rfl)
   .omega
 .cases e:g s with
  | none=>show .inl rfl
  | some b =>
   have q:=h.two;have:=(only (ye c) e).at_ h.nd c;rcases this with z | ⟨_,z⟩
   .have:=(yc.mp z).1;lk
   .rw [show rs.length-1-1=rs.length-2 by lk,d] at z;show .inr (by rw[<- z])
theorem TurnR.inner{f:Str->Option Str}(h:TurnR f rs)(d:0<i)(h1:i+1<rs.length)(b:rs[i]?=some s):(f s).isSome=true:=by
 obtain⟨r,a⟩:∃ r,rs[i-1]?=some r:=⟨_,yb (by lk)⟩;obtain⟨t,c⟩:∃ t,rs[i+1]?=some t:=⟨_,yb h1⟩;have:=h.alt (i-1) r s t a (by rw[show i-1+1=i by lk];show b) (by rw[show i-1+2=i+1 by lk];show c)
 cases e:f s with
 | some _=>rfl
 | none =>
  rw[e] at this;have:=this.mpr (fun z=>by cases z);cases this
theorem qc8{f:Str->Option Str}(h:TurnR f rs)(e:∀ a b,g a=some b↔flipR f rs a b)(c:adjR rs a t)(i:f a=none\/f a=some t)(d:g a=none\/g a=some t):(g a).isSome=!(f a).isSome:=by
 rcases i with z | z
 .rw [(e a t).mpr (.inr ⟨c,by rw[z];show fun y=>by cases y⟩),z];rfl
 .rcases d with y | y
  .rw [y,z];rfl
  .show absurd ⟨fun _=>c,fun _=>z⟩ (h.xor.mp ((e a t).mp y))
theorem qdV{f:Str->Option Str}(h:TurnR f rs)(g:rs[0]?=some a)(hb:rs[rs.length-1]?=some b):(rs.filter fun s=>(f s).isSome).length+2=rs.length+(if (f a).isSome then 1 else 0)+(if (f b).isSome then 1 else 0):=by
 have d:=h.two
 obtain⟨m,l⟩:∃ m,rs=a::(m++[b]):=by
  match rs,g,hb,d with
  | x::r,g,hb,d =>
   have t:x=a:=ym g;have p:r≠[]:=fun z=>by rw[z] at d;simp at d
   show⟨r.dropLast,?_⟩
   have e:r.getLast p=b:=by
    have hl:0<r.length:=xi.mpr p;rw[show(x::r).length-1=r.length-1+1 by simp;lk,List.getElem?_cons_succ] at hb;rw[List.getLast_eq_getElem];show(yc.mp hb).2
   rw[t,<- e,xv]
 have n:rs.length=m.length+2:=by rw[l];simp
 have c:(m.filter fun s=>(f s).isSome)=m:=List.filter_eq_self.mpr fun s q=>by
  obtain⟨i,o⟩:=yf q;have j:=(yc.mp o).1;show h.inner (i:=i+1) (by lk) (by lk) ?_;rw[l,List.getElem?_cons_succ,yF j];show o
 rw[n,l,yL,Yc,c,yL,Yw];cases (f a).isSome<;>cases (f b).isSome<;>simp<;>lk
theorem qcr(f:ss.Nodup)(i:rs.Nodup)(c:∀ s∈rs,s∈ss)(p:Str->Bool):(ss.filter p).length=(rs.filter p).length+(ss.filter fun s=>p s&&!decide (s∈rs)).length:=by
 have e:(rs.filter p).length=(ss.filter fun s=>p s&&decide (s∈rs)).length:=kl
  (qdl (i.filter _) fun s d=>by
   obtain⟨a,b⟩:=yp.mp d;show yp.mpr ⟨c s a,by rw[b,yD a];rfl⟩)
  (qdl (f.filter _) fun s d=>by
   obtain⟨a,b⟩:=yp.mp d;obtain⟨g,h⟩:=(Yh _ _).mp b;show yp.mpr ⟨yk h,g⟩)
 rw[e];clear e f c
 induction ss with
 | nil=>rfl
 | cons x r ih =>
  rw[yL,yL,yL];cases p x<;>cases decide (x∈rs)<;>simp<;>lk
theorem qbC:∀{qs:LP},(∀ q∈qs,q.1≠q.2)->qs.Pairwise (fun q r=>q.1≠r.1/\q.1≠r.2/\q.2≠r.1/\q.2≠r.2)->(qv qs).Nodup
 | [],_,_=>kx
 | q::r,h,hp=>by
  obtain⟨j,l⟩:=List.pairwise_cons.mp hp;have i:=qbC (fun x f=>h x (yN _ f)) l;show(q.1::q.2::qv r).Nodup
  have out:∀ n∈qv r,q.1≠n/\q.2≠n:=fun n g=>by
   obtain⟨x,f,e⟩:=Xc.mp g;obtain⟨a,b,c,d⟩:=j x f;simp only[yz,yM,Yt] at e;rcases e with rfl | rfl
   .show⟨a,c⟩
   .show⟨b,d⟩
  show yo.mpr ⟨fun z=>?_,yo.mpr ⟨fun z=>(out _ z).2 rfl,i⟩⟩;rcases yz.mp z with z | z
  .show h q yY z
  .show(out _ z).1 rfl
theorem stpB_adj:(a,b)∈qdU rs↔adjR rs a b:=by
 unfold qdU adjR;rw[yx,YH];constructor
 .rintro (h | ⟨q,h,e⟩)
  .obtain⟨j,d⟩:=yf h;show⟨j,.inl (stp_at.mp d)⟩
  .obtain⟨j,d⟩:=yf h;cases e;show⟨j,.inr (stp_at.mp d)⟩
 .rintro ⟨j,⟨h1,c⟩ | ⟨h1,c⟩⟩
  .show .inl (ye (stp_at.mpr ⟨h1,c⟩))
  .show .inr ⟨(b,a),ye (stp_at.mpr ⟨h1,c⟩),rfl⟩
theorem flT_flip{d:LP}(h:TurnR (pt qs) rs):(a,b)∈flT d qs rs↔(a,b)∈d/\flipR (pt qs) rs a b:=by
 unfold flT;rw[yp,h.xor];show and_congr_right fun _=>?_;show(decide (pt qs a=some b) != decide ((a,b)∈qdU rs))=true↔_;by_cases h1:pt qs a=some b<;>by_cases c:(a,b)∈qdU rs
 .rw [yD h1,yD c];show⟨(fun z=>by cases z),fun z=>absurd ⟨fun _=>stpB_adj.mp c,fun _=>h1⟩ z⟩
 .rw [yD h1,yl c];show⟨fun _ z=>c (stpB_adj.mpr (z.mp h1)),fun _=>rfl⟩
 .rw [yl h1,yD c];show⟨fun _ z=>h1 (z.mpr (stpB_adj.mp c)),fun _=>rfl⟩
 .rw [yl h1,yl c];show⟨(fun z=>by cases z),fun z=>absurd ⟨fun y=>absurd y h1,fun y=>absurd (stpB_adj.mpr y) c⟩ z⟩
def tA(tps:LP)(a b:Str):Prop:=(a,b)∈tps\/(b,a)∈tps
theorem pt_some:s∈qv qs↔(pt qs s).isSome=true:=by
 cases e:pt qs s with
 | none=>show⟨fun z=>absurd z (pt_none.mp e),(fun z=>by cases z)⟩
 | some b=>show⟨fun _=>rfl,fun _=>YT fun z=>by rw[pt_none.mpr z] at e;cases e⟩
structure PFn(ss:LS)(tps:LP)(f:Str->Option Str):Prop where
 sym:∀ a b,f a=some b->f b=some a
 tie:∀ a b,f a=some b->tA tps a b
noncomputable def qeT(f:Str->Option Str)(ss:LS):Nat:=(ss.filter fun s=>(f s).isSome).length
section
variable{ss:LS}{ns:LN}{tps qs:LP}{f g:Str->Option Str}
theorem PGo.fn(h:PGo ss tps qs):PFn ss tps (pt qs):=⟨fun a b e=>(qdQ h.nd).mp e,fun a b e=>by
 rcases qdO e with z | z
 .show(h.inn _ z).1
 .show(h.inn _ z).1.symm⟩
theorem PGo.cnt(h:PGo ss tps qs)(c:ss.Nodup):2*qs.length=qeT (pt qs) ss:=by
 rw[<- qap];show kl (qdl h.nd fun s a=>yp.mpr ⟨?_,pt_some.mp a⟩) (qdl (c.filter _) fun s a=>pt_some.mpr (yp.mp a).2);obtain⟨q,b,a⟩:=Xc.mp a;simp only[yz,yM,Yt] at a;rcases a with rfl | rfl
 .show(h.inn q b).2.1
 .show(h.inn q b).2.2.1
theorem qey:(snL f ss).length+qeT f ss=ss.length:=by
 unfold snL qeT
 induction ss with
 | nil=>rfl
 | cons x r ih =>
  rw[yL,yL];cases (f x).isSome
  .rw [yG (show(!false)=true from rfl),yE Yo,yy,yy];lk
  .rw [yE (show ¬ (!true)=true by decide),yG (show true=true from rfl),yy,yy];lk
theorem qaQ(hw:WOk ss ns)(p:Adj ss ns tps):(a,b)∈qR ss ns ss.length↔tA tps a b/\∃ i j:Nat,i<j/\ss[i]?=some a/\ss[j]?=some b:=by
 unfold qR;rw[Xc];constructor
 .rintro ⟨i,f,h⟩;have f:=xV.mp f;obtain⟨s,l⟩:∃ s,ss[i]?=some s:=⟨_,yb f⟩;have d:ss.getD i ""=s:=by rw[Yk,l];rfl
  unfold qeO at h;rw[d] at h;obtain⟨o,t,e⟩:=YH.mp h;cases e;obtain⟨h1,c⟩:=yp.mp t;obtain⟨q,r⟩:=qdL hw.nd h1;have n:ss[ss.idxOf b]?=some b:=by rw[yb (YM q),xo]
  show⟨(p i _ _ _ l n).mp r,i,_,yk c,l,n⟩
 .rintro ⟨h,i,j,g,h1,c⟩;show⟨i,xV.mpr (yc.mp h1).1,?_⟩;have d:ss.getD i ""=a:=by rw[Yk,h1];rfl
  have m:ss.idxOf b=j:=by
   have hb:=ye c;show qG hw.nd (by rw[yb (YM hb),xo]) c
  unfold qeO;rw[d];show YH.mpr ⟨b,yp.mpr ⟨?_,yD (by rw[m];show g)⟩,rfl⟩;rw[qad hw.nd];show yp.mpr ⟨ye c,by rw[m];show(p i j a b h1 c).mpr h⟩
theorem dps_nd(hw:WOk ss ns):(qR ss ns ss.length).Nodup:=by
 show List.pairwise_flatMap.mpr ⟨fun i _=>?_,?_⟩
 .unfold qeO;show kD.mpr ?_;have nd:((inB ss 0 (ns.getD i 0)).filter fun o=>decide (i<ss.idxOf o)).Nodup:=by rw[qad hw.nd];show(hw.nd.filter _).filter _
  show nd.imp fun c e=>c (Prod.mk.inj e).2
 .show xq (fun{i j} a b g q d r f e=>?_) (List.pairwise_lt_range (n:=ss.length));have a:=xV.mp a;have b:=xV.mp b;unfold qeO at d f;obtain⟨_,_,rfl⟩:=YH.mp d;obtain⟨_,_,rfl⟩:=YH.mp f;have e:=(Prod.mk.inj e).1;rw[Yk,Yk,yb a,yb b] at e;have:=qG hw.nd (yb a) (by rw[yb b];show congrArg some e.symm);lk
theorem qez(hw:WOk ss ns)(A:Adj ss ns tps)(t:∀ ab∈tps,ab.1∈ss/\ab.2∈ss/\ab.1≠ab.2)(h:PFn ss tps g){L:LP}(f:∀ a b,(a,b)∈L↔(a,b)∈qR ss ns ss.length/\g a=some b)(H:L.Sublist (qR ss ns ss.length)):PGo ss tps L/\pt L=g:=by
 have mem:∀ q∈L,g q.1=some q.2/\tA tps q.1 q.2/\∃ i j:Nat,i<j/\ss[i]?=some q.1/\ss[j]?=some q.2:=fun q c=>by
  obtain⟨h1,G⟩:=(f q.1 q.2).mp c;show⟨G,(qaQ hw A).mp h1⟩
 have inn:∀{a b:Str},tA tps a b->a∈ss/\b∈ss/\a≠b:=fun z=>z.elim (fun y=>t _ y) fun y=>⟨(t _ y).2.1,(t _ y).1,(t _ y).2.2.symm⟩
 have nd:(qv L).Nodup:=by
  show qbC (fun q c=>(inn (mem q c).2.1).2.2) (xq (fun{q r} c I n=>?_) (H.nodup (dps_nd hw)));obtain⟨d,_,i,j,l1,o,p⟩:=mem q c;obtain⟨x,_,K,M,l2,D,E⟩:=mem r I;have w:=h.sym _ _ d;have F:=h.sym _ _ x;show⟨fun z=>?_,fun z=>?_,fun z=>?_,fun z=>?_⟩
  .rw [z,x] at d;show n (X6 z (ym d).symm)
  .rw [z,F] at d;have e:=ym d;rw[z] at o;rw[<- e] at p;have:=qG hw.nd o E;have:=qG hw.nd p D;lk
  .rw [z,x] at w;have e:=ym w;rw[z] at p;rw[<- e] at o;have:=qG hw.nd o E;have:=qG hw.nd p D;lk
  .rw [z,F] at w;show n (X6 (ym w).symm z)
 have C:∀ q∈L,(q∈tps\/(q.2,q.1)∈tps)/\q.1∈ss/\q.2∈ss/\q.1≠q.2:=fun q c=>⟨(mem q c).2.1,inn (mem q c).2.1⟩
 have hl:L.length<=30:=by
  have:=qdl (l:=qv L) (m:=ss) nd fun s v=>by
   obtain⟨q,c,v⟩:=Xc.mp v;simp only[yz,yM,Yt] at v;rcases v with rfl | rfl
   .show(C q c).2.1
   .show(C q c).2.2.1
  rw[qap] at this;have:=hw.few;lk
 show⟨⟨C,nd,hl⟩,funext fun a=>qdR fun b=>?_⟩;rw[qdP nd];constructor
 .rintro (z | z)
  .show((f _ _).mp z).2
  .show h.sym _ _ ((f _ _).mp z).2
 .intro e;obtain⟨m1,J,ne⟩:=inn (h.tie _ _ e);obtain⟨i,B⟩:=yf m1;obtain⟨j,u⟩:=yf J;rcases XW i j with l | l | l
  .show .inl ((f _ _).mpr ⟨(qaQ hw A).mpr ⟨h.tie _ _ e,i,j,l,B,u⟩,e⟩)
  .subst l;rw[B] at u;show absurd (ym u) ne
  .show .inr ((f _ _).mpr ⟨(qaQ hw A).mpr ⟨(h.tie _ _ e).symm,j,i,l,u,B⟩,h.sym _ _ e⟩)
theorem tps_ok(hw:WOk ss ns)(c:Adj ss ns tps)(d:∀ ab∈tps,ab.1∈ss/\ab.2∈ss/\ab.1≠ab.2)(h:PGo ss tps qs):PGo ss tps (qbh (qR ss ns ss.length) qs)/\pt (qbh (qR ss ns ss.length) qs)=pt qs:=
 qez hw c d h.fn (fun a b=>by unfold qbh;rw[yp,Yq]) List.filter_sublist
end
theorem flip_ex{f:Str->Option Str}(h:TurnR f rs):∃ g:Str->Option Str,∀ a b,g a=some b↔flipR f rs a b:=
 ⟨fun a=>@dite _ (∃ b,flipR f rs a b) (Classical.propDecidable _) (fun z=>some z.choose) fun _=>none,fun a b=>by
  dsimp only;split
  .rename_i z
   show⟨fun e=>by rw[<- ym e];show z.choose_spec,fun e=>congrArg some (z.choose_spec.one h e)⟩
  .rename_i z
   show⟨(fun e=>by cases e),fun e=>absurd ⟨b,e⟩ z⟩⟩
section
variable{ss:LS}{tps qs:LP}{f g:Str->Option Str}{rs:LS}
theorem flip_fn(h:TurnR f rs)(i:PFn ss tps f)(d:∀ a b,adjR rs a b->tA tps a b)(c:∀ a b,g a=some b↔flipR f rs a b):PFn ss tps g:=
 ⟨fun a b e=>(c _ _).mpr (((c _ _).mp e).symm h),fun a b e=>((c _ _).mp e).elim (fun z=>i.tie _ _ z.2) fun z=>d _ _ z.1⟩
theorem flip_cnt(h:TurnR f rs)(e:∀ a b,g a=some b↔flipR f rs a b)(o:ss.Nodup)(d:∀ s∈rs,s∈ss)(c:rs[0]?=some a)(hb:rs[rs.length-1]?=some b):qeT g ss+2=qeT f ss+(if (f a).isSome then 0 else 2)+(if (f b).isSome then 0 else 2):=by
 have B:=h.two;have j:=h.again e;unfold qeT;rw[qcr o h.nd d,qcr (p:=fun s=>(f s).isSome) o h.nd d];have n:=qdV h c hb;have i:=qdV j c hb
 have A:(ss.filter fun s=>(g s).isSome&&!decide (s∈rs))=ss.filter fun s=>(f s).isSome&&!decide (s∈rs):=List.filter_congr fun s _=>by
  by_cases z:s∈rs
  .rw [yD z];simp
  .have:g s=f s:=qdR fun b=>by
    rw[e];show⟨fun y=>y.elim (fun x=>x.2) fun x=>absurd x.1.mem.1 z,fun y=>.inl ⟨z,y⟩⟩
   rw[this]
 rw[A];obtain⟨t,l⟩:∃ t,rs[1]?=some t:=⟨_,yb (by lk)⟩;obtain⟨u,m⟩:∃ u,rs[rs.length-2]?=some u:=⟨_,yb (by lk)⟩;have q:=qc8 h e ⟨0,.inl ⟨c,l⟩⟩ (h.fst a t c l) (j.fst a t c l);have r:=qc8 h e (a:=b) (t:=u) ⟨rs.length-2,.inr ⟨m,by rw[show rs.length-2+1=rs.length-1 by lk];show hb⟩⟩ (h.lst b u hb m) (j.lst b u hb m);rw[q,r] at i;generalize (rs.filter fun s=>(g s).isSome).length=C at i ⊢;generalize (rs.filter fun s=>(f s).isSome).length=D at n ⊢;cases v:(f a).isSome<;>cases w:(f b).isSome<;>rw[v,w] at n i<;>simp at n i ⊢<;>lk
theorem turns_turn(c:∀ a b,f a=some b->f b=some a)(nd:rs.Nodup)(two:2<=rs.length)(st:Turns A f rs)(g:∀ s,rs[0]?=some s->f s=none)(tl:∀ s t,rs[rs.length-1]?=some s->rs[rs.length-2]?=some t->f s=none\/f s=some t):TurnR f rs:=by
 show⟨nd,two,c,fun j r s t h h1 i=>?_,fun s t h1 _=>.inl (g s h1),tl⟩;have d:=(st j r s h h1).2;have e:=(st (j+1) s t h1 i).2;have:f s=some r↔f r=some s:=⟨fun z=>c _ _ z,fun z=>c _ _ z⟩;rw[this,d,e];lk
theorem turns_adj(st:Turns (tA tps) f rs):∀ a b,adjR rs a b->tA tps a b:=fun a b h=>by
 obtain⟨j,⟨h1,c⟩ | ⟨h1,c⟩⟩:=h
 .show(st j _ _ h1 c).1
 .show(st j _ _ h1 c).1.symm
theorem Aug.row(h:Aug (tA tps) (pt qs) rs)(hl:rs.length<=1000)(c:∀ ab∈tps,ab.1∈ss/\ab.2∈ss/\ab.1≠ab.2):RowG ss tps qs rs:=by
 show⟨h.nd,h.two,hl,fun r n=>?_,fun j ab e=>?_,h.hd,h.tl⟩
 .obtain⟨i,d⟩:=yf n;have m:=(yc.mp d).1;have q:=h.two;have inn:∀{a b:Str},tA tps a b->a∈ss/\b∈ss:=fun z=>z.elim (fun y=>⟨(c _ y).1,(c _ y).2.1⟩) fun y=>⟨(c _ y).2.1,(c _ y).1⟩;by_cases l:i+1<rs.length
  .show(inn (h.st i r _ d (yb l)).1).1
  .show(inn (h.st (i-1) _ r (yb (by lk)) (by rw[show i-1+1=i by lk];show d)).1).2
 .obtain⟨f,g⟩:=stp_at.mp e;obtain⟨o,p⟩:=h.st j _ _ f g;show⟨o,YZ.mpr p⟩
theorem Aug.turn(h:Aug (tA tps) (pt qs) rs)(c:∀ a b,pt qs a=some b->pt qs b=some a):TurnR (pt qs) rs:=
 turns_turn c h.nd h.two h.st h.hd fun s t e _=>.inl (h.tl s e)
theorem qdW(hw:WOk ss ns)(m:Adj ss ns tps)(f:∀ ab∈tps,ab.1∈ss/\ab.2∈ss/\ab.1≠ab.2)(e:PGo ss tps qs)(h:Aug (tA tps) (pt qs) rs)(hl:rs.length<=1000):PGo ss tps (flT (qR ss ns ss.length) qs rs)/\(flT (qR ss ns ss.length) qs rs).length=qs.length+1:=by
 have c:=h.turn e.fn.sym;obtain⟨g,d⟩:=flip_ex c;obtain⟨j,n⟩:=qez hw m f (flip_fn c e.fn (turns_adj h.st) d) (L:=flT (qR ss ns ss.length) qs rs) (fun a b=>by rw[flT_flip c,d]) List.filter_sublist;show⟨j,?_⟩;have o:=e.cnt hw.nd;have l:=j.cnt hw.nd;rw[n] at l;have p:=h.two;obtain⟨a,i⟩:∃ t,rs[0]?=some t:=⟨_,yb (by lk)⟩;obtain⟨b,hb⟩:∃ t,rs[rs.length-1]?=some t:=⟨_,yb (by lk)⟩;have:=flip_cnt c d hw.nd (h.row hl f).inn i hb;rw[h.hd a i,h.tl b hb] at this;simp at this;lk
end
theorem Kn:FnScope ["web","pairs","now","rows","row"] ["web","pairs"] (qh jO):=fS
def MxF(ss:LS)(tps qs:LP):Prop:=∃ S:FS,Fn (tA tps) (pt qs) S ss
structure Wt(cw:Addr)(H:Hp)(x:Addr)(ss:LS)(ns:LN)(tps:LP):Prop where
 web:WebAt cw H x ss ns
 adj:Adj ss ns tps
 ok:∀ ab∈tps,ab.1∈ss/\ab.2∈ss/\ab.1≠ab.2
theorem Wt.same(h:Wt cw H x ss ns tps)(s:L2.Same H H'):Wt cw H' x ss ns tps:=⟨h.web.same s,h.adj,h.ok⟩
theorem Wt.wok(h:Wt cw H x ss ns tps):WOk ss ns:=by obtain⟨_,_,_,_,_,_,_,_,z⟩:=h.web;show z
theorem Wt.wb(h:Wt cw H x ss ns tps)(g:PGo ss tps qs):Wb (tA tps) ss qs:=by
 show⟨⟨fun z=>Or.symm z,fun z e=>?_,fun{a b} e=>g.fn.sym a b e,fun{a b} e=>g.fn.tie a b e⟩,fun a b z=>z.elim (fun y=>(h.ok _ y).1) fun y=>(h.ok _ y).2.1,g.nd,h.wok.few,h.wok.nd⟩;rcases z with z | z
 .show(h.ok _ z).2.2 e
 .show(h.ok _ z).2.2 e.symm
theorem Wt.bes(h:Wt cw H x ss ns tps):∀(j:Nat) z u,ss[j]?=some z->(u∈inB ss 0 (ns.getD j 0)↔tA tps z u):=fun j z u e=>by
 rw[qad h.wok.nd,yp];constructor
 .rintro ⟨h1,b⟩;show(h.adj j _ z u e (by rw[yb (YM h1),xo])).mp b
 .intro t;have a:u∈ss:=t.elim (fun y=>(h.ok _ y).2.1) fun y=>(h.ok _ y).1;show⟨a,(h.adj j _ z u e (by rw[yb (YM a),xo])).mpr t⟩
theorem qfq{c:Addr}{a:Fo}(h:FoD c cw H0 H a ss ns qs S dn wt .non (tA tps))(W:Wb (tA tps) ss qs):Fn (tA tps) (pt qs) S ss:=by
 rcases h.en with⟨_,rfl,I,C,sg⟩ | ⟨t,r,e,_⟩
 .have b:∀ v,v∈dn↔S.rows v≠none:=fun v=>by have:=h.fo.evi v;rwa[Yb] at this
  show⟨I,W.gr,W.inn,W.nd,fun v u hv d=>(C.cl v u ((b v).mpr hv) d).imp id fun z=>⟨z.1,YT fun y=>z.2 ((b u).mpr y)⟩,sg,fun v hv=>h.fo.evs v ((h.fo.evi v).mpr hv)⟩
 .cases e
def FRow(ss:LS)(tps qs:LP)(H:Hp)(v:V)(H':Hp):Prop:=L2.Same H H'/\((v=.non/\MxF ss tps qs)\/∃(r:Addr) (rs:LS),v=.ref r/\H r=none/\H' r=some (.lst (rs.map V.str))/\rs.length<=1000/\Aug (tA tps) (pt qs) rs)
inductive spGf(cw:Addr)(vs:List V)(H:Hp)(Q:VK)(E:XK):Prop|mk (x l:Addr) (ss:LS) (ns:LN) (us:LQ) (tps qs:LP) (_:vs=[.ref x,.ref l]) (_:Wt cw H x ss ns tps) (_:PL H l us qs) (_:PGo ss tps qs) (_:∀(t l2 r2:Addr) (ls:LQ) (ws:List V) (rs:LP) (H':Hp),L2.Same H H'->H' t=some (.tup [.ref l2,.ref r2])->PL H' l2 ls rs->H' r2=some (.lst ws)->rs.length=qs.length+ws.length->PGo ss tps rs->MxF ss tps rs->Q (.ref t) H')
theorem qeU{l y:Addr}{Q:VK}(W:Wt cw G x ss ns tps)(n:PL G l us qs)(b:PGo ss tps qs)(f:G y=none)(i:G dx=none)(d:dx≠y)
  (h:∀ H0 H2 a S dn wt lo,a.x=y->FoD (cc 9) cw H0 H2 a ss ns qs S dn wt lo (tA tps)->L2.Same G H2->Q .non H2):spFi cc cw [.ref y,.ref x,.ref l] (upd (upd G dx (.own y)) y (.ins (cc 9) dx [])) Q E:=by
 have j:=qC (qC (Sr G) (o:=.own y) i) (o:=.ins (cc 9) dx []) (show upd G dx (.own y) y=none by rw[qf (Yd d)];show f);show⟨y,dx,x,l,ss,ns,us,tps,qs,tA tps,rfl,qb,W.web.same j,W.adj,W.wb b,W.wok.nm,W.bes,n.same j,b.few,b.inn,fun H0 H' a S dn wt lo m _ g p=>h H0 H' a S dn wt lo m g fun c o e=>?_⟩;show g.fo.sm c o (p c o ?_);rw[zJ (fun z=>by rw[z,f] at e;cases e),qf (fun z=>by rw[z,f] at e;cases e),qf (fun z=>by rw[z,i] at e;cases e)];show e
theorem qf4{a:Fo}{Q:VK}(d:FoD (cc 9) cw H0 H2 a ss ns qs S dn wt lo (tA tps))(i:Wb (tA tps) ss qs)(h:∀ v H',FRow ss tps qs H2 v H'->Q v H'):spFr cc cw [.ref a.x] H2 Q E:=by
 show⟨H0,a,ss,ns,qs,S,dn,wt,lo,_,rfl,d,fun e=>?_,fun t r e f g l hl=>?_⟩
 .subst e;show h _ _ ⟨L2.Same.refl _,.inl ⟨rfl,S,qfq d i⟩⟩
 .show h _ _ ⟨qC (Sr _) hl,.inr ⟨l,r,rfl,hl,qb,?_,g⟩⟩;rcases d.en with⟨b,_⟩ | ⟨t',m,b,c,_,_,j⟩
  .rw [e] at b;cases b
  .rw [e] at b;cases b;rw[f] at c;have:=congrArg List.length (show r.map V.str=m.map V.str by injection (ym c));rw[ya,ya] at this;lk
theorem ok_gf(F:Fun K "greatest_from" "greatest_from" jO f fd)(T:Txt K mg cc cw)(uP:DefOk P w K mg base CX0 10 "told_pairs" ["web","pairs"] (spTp cw))(K4:MakeOk P w K mg base CX0 10 (cc 9) "Forest" ["self","web","pairs"] (spFi cc cw))(uf:MethOk P w K mg base CX0 1 (cc 9) "row" ["self"] (spFr cc cw))(Ui:DefOk P w K mg base CX0 12 "turned" ["web","pairs","row"] (spTu cw)):FnOk P w K mg base CX0 13 f fd ["web","pairs"] (spGf cw):=by
 show F.ok Kn fun _ _ _ _ H vs Q E M h=>?_
 .obtain⟨x,l,ss,ns,us,tps,qs,rfl,W,hP,hG,q⟩:=h;have hu:=ze M;show⟨_,(qc (qm (i:=2) Kn.nd rfl (yP rfl) (qp uP (hmR M) qz (qa (pv 0) (qa (pv 1) qd))))
 (qc (qm (i:=3) Kn.nd rfl (yP rfl) (jg qd))
 (qc (qm (i:=4) Kn.nd rfl (yP rfl) (qS uf (hmR M) (qaY K4 (hmR M) (qa (pv 0) (qa (pv 2) qd)))))
 (qc (qaV yZ (qj qcw (pv 4) zk (qw _))
 (qc (qQ (qby (K:=K) rfl yV Yi Yj je (pv 3) (qa (pv 4) qd)))
 (qc (qm (i:=2) Kn.nd rfl (yP rfl) (qp Ui (hmR M) qz (qa (pv 0) (qa (pv 2) (qa (pv 4) qd)))))
 (qe (qm (i:=4) Kn.nd rfl (yP rfl) (qS uf (hmR M) (qaY K4 (hmR M) (qa (pv 0) (qa (pv 2) qd)))))))))
 (qe (qo (jS (qa (pv 2) (qa (pv 3) qd))))))))),?_⟩
  apply⟨x,l,ss,ns,us,tps,qs,rfl,W.web,W.adj,hP,hG,fun l1 af H1 s1 ax I _ hA1=>?_⟩;apply⟨by decide,fun c N=>?_⟩;have s2:=qC (Sr H1) (o:=.lst []) N;have d:upd H1 c (.lst []) c=some (.lst []):=qb;have W2:=W.same (s1.trans s2);have u:=tps_ok W.wok W.adj W.ok hG
  have ad:(qbh (qR ss ns ss.length) qs).length=qs.length+0:=by
   have c1:=hG.cnt W.wok.nd;have c2:=u.1.cnt W.wok.nd;rw[u.2] at c2;lk
  have n:PL (upd H1 c (.lst [])) l1 af (qbh (qR ss ns ss.length) qs):=⟨s2 _ _ I,hA1.mono fun _ _ z=>s2 _ _ z.2.2⟩;have ai:=s1.trans s2;generalize upd H1 c (.lst [])=G at ai d W2 n;generalize qbh (qR ss ns ss.length) qs=g at n u ad;replace u:=u.1;apply fun y dx hy D L=>qeU W2 n u hy D L fun H0 H3 a S dn wt lo ea hD s3=>?_;subst ea;obtain⟨fx,ff,ak,_,_,_,al⟩:=id hD.fo.obj;show⟨rfl,a.x,fx,ff,rfl,ak,al _ (by room),?_⟩;apply qf4 hD (W2.wb u) fun v H4 hv=>?_;have ar:=ai.trans s3;have ae:H c=none:=s1.free N;have ah:l1≠c:=fun e=>by rw[e,N] at I;cases I
  ext;obtain⟨Wv,C⟩:∃ Wv:Nat->L2.St->Hp->Prop,Wv=fun m σ J=>∃(s:Addr) (us:LQ) (g:LP) (j:List V) (v:V),σ=[some (.ref x),some (.ref l),some (.ref s),some (.ref c),some v]/\L2.Same H J/\PL J s us g/\s≠c/\PGo ss tps g/\J c=some (.lst j)/\g.length=qs.length+j.length/\m=8-g.length /\
   ((v=.non/\MxF ss tps g)\/∃(r:Addr) (rs:LS),v=.ref r/\r≠c/\J r=some (.lst (rs.map V.str))/\rs.length<=1000/\Aug (tA tps) (pt g) rs):=⟨_,rfl⟩
  show⟨Wv,⟨_,by
   rw[C];show⟨l1,af,g,[],v,rfl,ar.trans hv.1,n.same (s3.trans hv.1),ah,u,hv.1 _ _ (s3 _ _ d),ad,rfl,hv.2.imp id ?_⟩;rintro⟨r,rs,e1,O,e3,e4,e5⟩;show⟨r,rs,e1,(fun z=>by rw[z,s3 _ _ d] at O;cases O),e3,e4,e5⟩⟩,fun m σ J ac=>?_⟩
  rw[C] at ac;obtain⟨s,us,g,j,v,rfl,sJ,B,ap,gJ,d,hc,hm,hv⟩:=ac;ext
  have av:2*g.length<=14:=by
   have:=gJ.cnt W.wok.nd;have h2:qeT (pt g) ss<=ss.length:=yQ _ _;have:=W.wok.few;lk
  rcases hv with⟨rfl,mx⟩ | ⟨r,rs,rfl,nr,er,hl,au⟩
  .show⟨rfl,_,rfl,qJ (fun h=>by simp at h) fun _=>?_⟩;apply⟨by show 2<=sizeLine;decide,fun t ht=>?_⟩;have s9:=qC (Sr J) (o:=.tup [.ref s,.ref c]) ht;show q t s c us j g _ (sJ.trans s9) qb (B.same s9) (s9 _ _ d) hc gJ mx
  .show⟨rfl,_,rfl,zA ⟨fun as H'=>∃ m',m'<m/\Wv m' as H',fun _ _ z=>z,?_⟩⟩;apply⟨.inl ⟨rfl,_,SqL.of d⟩,?_⟩;apply⟨c,_,_,rfl,rfl,d,qi (by lk),?_⟩;have sU:=qaO sJ (o:=.lst (j++[.ref r])) ae;have aa:PL (upd J c (.lst (j++[.ref r]))) s us g:=⟨by rw[qf ap];show B.1,B.2.mono fun t ab z=>by rw[qf (zB z d (fun e=>by cases e))];show z⟩;have U:upd J c (.lst (j++[.ref r])) r=some (.lst (rs.map V.str)):=by rw[qf nr];show er
   have A:upd J c (.lst (j++[.ref r])) c=some (.lst (j++[.ref r])):=qb;generalize upd J c (.lst (j++[.ref r]))=G1 at sU aa U A ⊢;have WU:=W.same sU;apply⟨x,s,r,ss,ns,us,tps,g,rs,rfl,⟨WU.web,WU.adj,aa,gJ,U,au.row hl W.ok⟩,fun l3 ag H5 s5 p ao _ X=>?_⟩;obtain⟨g3,c3⟩:=qdW W.wok W.adj W.ok gJ au hl;generalize flT (qR ss ns ss.length) g rs=p3 at X g3 c3;have n3:l3≠c:=fun e=>by rw[e,A] at p;cases p
   have Z:PL H5 l3 ag p3:=⟨ao,X.mono fun _ _ z=>z.2.2⟩;have aj:=sU.trans s5;have W5:=W.same aj;have R:=s5 _ _ A;apply fun y dx hy D L=>qeU W5 Z g3 hy D L fun H6 H7 b S5 aw az ay eb Y s7=>?_;subst eb;obtain⟨fy,fg,am,_,_,_,an⟩:=id Y.fo.obj;show⟨rfl,b.x,fy,fg,rfl,am,an _ (by room),?_⟩;apply qf4 Y (W5.wb g3) fun v H8 hv=>?_;apply⟨8-p3.length,by lk,?_⟩;rw[C];show⟨l3,ag,p3,j++[.ref r],v,rfl,(aj.trans s7).trans hv.1,Z.same (s7.trans hv.1),n3,g3,hv.1 _ _ (s7 _ _ R),by rw[c3,hc,yt];rfl,rfl,hv.2.imp id ?_⟩;rintro⟨r',aq,e1,O,e3,e4,e5⟩;show⟨r',aq,e1,(fun z=>by rw[z,s7 _ _ R] at O;cases O),e3,e4,e5⟩
theorem uU:FnScope ["web"] ["web"] (qh qag):=fS
inductive spGr(cw:Addr)(vs:List V)(H:Hp)(Q:VK)(E:XK):Prop|mk (x:Addr) (ss:LS) (ns:LN) (tps:LP) (_:vs=[.ref x]) (_:Wt cw H x ss ns tps) (_:∀(l:Addr) (ls:LQ) (rs:LP) (H':Hp),L2.Same H H'->PL H' l ls rs->PGo ss tps rs->MxF ss tps rs->Q (.ref l) H')
inductive spCo(cw:Addr)(vs:List V)(H:Hp)(Q:VK)(E:XK):Prop|mk (x:Addr) (ss:LS) (ns:LN) (tps:LP) (_:vs=[.ref x]) (_:Wt cw H x ss ns tps) (_:∀(rs:LP) (H':Hp),L2.Same H H'->PGo ss tps rs->MxF ss tps rs->Q (.int rs.length) H')
theorem ok_gr(F:Fun K "greatest" "greatest" qag f fd)(T:Txt K mg cc cw)(p:DefOk P w K mg base CX0 13 "greatest_from" ["web","pairs"] (spGf cw)):FnOk P w K mg base CX0 14 f fd ["web"] (spGr cw):=by
 show F.ok uU fun _ _ _ _ H vs Q E a h=>?_
 .obtain⟨x,ss,ns,tps,rfl,W,q⟩:=h;have i:=ze a;show⟨_,(qe (qo (qt (qu (K:=K) rfl i) (qp p (hmR a) qz (qa (pv 0) (qa (jg qd) qd))) qg (fun _ _=>rfl)))),?_⟩;apply⟨by decide,fun l hl=>?_⟩;have b:=qC (Sr H) (o:=.lst []) hl;apply⟨x,l,ss,ns,[],tps,[],rfl,W.same b,⟨qb,.nil⟩,⟨(fun q h=>by cases h),kx,by decide⟩,fun t l2 r m s rs H' n c g _ _ d e=>?_⟩;show .inl (qaX c (v:=.ref l2) (qx (j:=0) rfl) (q l2 m rs H' (b.trans n) g d e))
noncomputable def tB(tps:LP)(a b:Str):Bool:=decide ((a,b)∈tps)||decide ((b,a)∈tps)
noncomputable def del(l:LS)(y:Str):LS:=l.filter fun a=>!decide (a=y)
noncomputable def mo(tps:LP):Nat->LS->Nat
 | 0,_=>0
 | _,[]=>0
 | n+1,x::r=>(r.filter (tB tps x)).foldl (fun m y=>max m (1+mo tps n (del r y))) (mo tps n r)
structure Mt(tps:LP)(l:LS)(f:Str->Option Str):Prop where
 sym:∀ a b,f a=some b->f b=some a
 tie:∀ a b,f a=some b->tA tps a b
 inn:∀ a b,f a=some b->a∈l
section
variable{tps:LP}
variable{ss:LS}{qs:LP}{S:FS}
end
structure WyI(A:Str->Str->Prop)(m:Str->Option (LS)):Prop where
 nd:∀ z r,m z=some r->r.Nodup
 last:∀ z r,m z=some r->r.getLast?=some z
 pre:∀ z r,m z=some r->∀ i x,r[i]?=some x->m x=some (r.take (i+1))
 tie:∀ z r,m z=some r->∀ i x y,r[i]?=some x->r[i+1]?=some y->A x y
noncomputable def qbT(m:Str->Option (LS))(z:Str)(r:LS):Str->Option (LS):=fun x=>if x=z then some r else m x
theorem qY:qbT m z r z=some r:=yG rfl
theorem q8{x:Str}(h:x≠z):qbT m z r x=m x:=yE h
theorem WyI.ne(h:WyI A m)(e:m z=some r):r≠[]:=fun a=>by have:=h.last z r e;rw[a] at this;cases this
theorem WyI.key(h:WyI A m){x:Str}(e:m z=some r)(b:x∈r):∃ q,m x=some q:=by
 obtain⟨i,a⟩:=yf b;show⟨_,h.pre z r e i x a⟩
theorem WyI.start(h:WyI A m)(f:m s=none):WyI A (qbT m s [s]):=by
 have b:∀{z r},m z=some r->∀ x∈r,x≠s:=fun e x g j=>by
  obtain⟨q,d⟩:=h.key e g;rw[j,f] at d;cases d
 have case:∀{z r},qbT m s [s] z=some r->(z=s/\r=[s])\/(z≠s/\m z=some r):=fun{z r} e=>by
  by_cases hz:z=s
  .subst hz;rw[qY] at e;cases e;show .inl ⟨rfl,rfl⟩
  .rw [q8 hz] at e;show .inr ⟨hz,e⟩
 show⟨fun z r e=>?_,fun z r e=>?_,fun z r e i x a=>?_,fun z r e i x y a c=>?_⟩<;>rcases case e with⟨rfl,rfl⟩ | ⟨hz,e⟩
 .simp
 .show h.nd z r e
 .rfl
 .show h.last z r e
 .cases i with
  | zero=>cases a;show qY
  | succ i=>simp at a
 .rw [q8 (b e x (ye a))];show h.pre z r e i x a
 .simp at c
 .show h.tie z r e i x y a c
theorem WyI.step(h:WyI A m){q:LS}(f:m y=some q)(hz:m z=none)(l:A y z):WyI A (qbT m z (q++[z])):=by
 have g:∀{w r},m w=some r->∀ x∈r,x≠z:=fun e x o p=>by
  obtain⟨s,n⟩:=h.key e o;rw[p,hz] at n;cases n
 have case:∀{w r},qbT m z (q++[z]) w=some r->(w=z/\r=q++[z])\/(w≠z/\m w=some r):=fun{w r} e=>by
  by_cases hw:w=z
  .subst hw;rw[qY] at e;cases e;show .inl ⟨rfl,rfl⟩
  .rw [q8 hw] at e;show .inr ⟨hw,e⟩
 have n:0<q.length:=xi.mpr (h.ne f);show⟨fun w r e=>?_,fun w r e=>?_,fun w r e i x c=>?_,fun w r e i x u c j=>?_⟩<;>rcases case e with⟨rfl,rfl⟩ | ⟨hw,e⟩
 .show yX.mpr ⟨h.nd y q f,by simp,fun a l b hb=>by rw[yv.mp hb];show g f a l⟩
 .show h.nd w r e
 .simp
 .show h.last w r e
 .by_cases hl:i<q.length
  .rw [yF hl] at c;rw[q8 (g f x (ye c)),h.pre y q f i x c,List.take_append_of_le_length (by lk)]
  .have d:i=q.length:=by
    have:=(yc.mp c).1;rw[yt] at this;simp only[yy,Ym] at this;lk
   subst d;rw[yB (yh _),XY] at c;cases c;rw[qY,YD (by rw[yt];show yh _)]
 .rw [q8 (g e x (ye c))];show h.pre w r e i x c
 .by_cases hl:i+1<q.length
  .rw [yF hl] at j;rw[yF (by lk)] at c;show h.tie y q f i x u c j
  .have d:i+1=q.length:=by
    have:=(yc.mp j).1;rw[yt] at this;simp only[yy,Ym] at this;lk
   rw[d,yB (yh _),XY] at j;cases j;rw[yF (by lk)] at c;have hl:=h.last y q f;rw[YU,show q.length-1=i by lk,c] at hl;cases hl;show l
 .show h.tie w r e i x u c j
noncomputable def sdW(r:LS):Nat:=(r.length+1) % 2
noncomputable def qbi(c:Str->Option Nat)(z:Str)(k:Nat):Str->Option Nat:=fun x=>if x=z then some k else c x
theorem jf{k:Nat}:qbi c z k z=some k:=yG rfl
theorem jV{x:Str}{k:Nat}(h:x≠z):qbi c z k x=c x:=yE h
inductive Drv(A:Str->Str->Prop)(S:Str->Prop):(Str->Option Nat)->Prop
 | nil:Drv A S fun _=>none
 | start {c:Str->Option Nat} {s:Str} (h:Drv A S c) (hs:S s) (e:c s=none):Drv A S (qbi c s 0)
 | step {c:Str->Option Nat} {y z:Str} {j:Nat} (h:Drv A S c) (hy:c y=some j) (ha:A y z) (e:c z=none):Drv A S (qbi c z (1-j))
inductive Rc(A:Str->Str->Prop)(a:Str):Str->Prop
 | refl:Rc A a a
 | on {b c:Str} (h:Rc A a b) (t:A b c):Rc A a c
theorem Rc.trans{c:Str}(h:Rc A a b)(k:Rc A b c):Rc A a c:=by
 induction k with
 | refl=>show h
 | on _ t ih=>show ih.on t
theorem Rc.symm(as:∀ a b,A a b->A b a)(h:Rc A a b):Rc A b a:=by
 induction h with
 | refl=>show .refl
 | on _ t ih=>show(Rc.refl.on (as _ _ t)).trans ih
theorem Drv.lt{S:Str->Prop}(h:Drv A S c):∀ z k,c z=some k->k<2:=by
 induction h with
 | nil=>intro z k e;cases e
 | @start c s h hs e ih =>
  intro z k a;by_cases hz:z=s
  .subst hz;rw[jf] at a;cases a;decide
  .rw [jV hz] at a;show ih z k a
 | @step c y z' j h hy ha e ih =>
  intro z k a;by_cases hz:z=z'
  .subst hz;rw[jf] at a;cases a;lk
  .rw [jV hz] at a;show ih z k a
theorem Drv.root{S:Str->Prop}(h:Drv A S c):∀ z k,c z=some k->∃ s,S s/\c s=some 0/\Rc A s z:=by
 induction h with
 | nil=>intro z k e;cases e
 | @start c s h hs e ih =>
  intro z k b;by_cases hz:z=s
  .subst hz;show⟨z,hs,jf,.refl⟩
  .rw [jV hz] at b;obtain⟨r,h1,a,d⟩:=ih z k b;show⟨r,h1,by rw[jV (fun x=>by rw[x,e] at a;cases a)];show a,d⟩
 | @step c y z' j h hy ha e ih =>
  intro z k b;have keep:∀{r},c r=some 0->qbi c z' (1-j) r=some 0:=fun{r} a=>by rw[jV (fun x=>by rw[x,e] at a;cases a)];show a
  by_cases hz:z=z'
  .subst hz;obtain⟨r,h1,a,d⟩:=ih y j hy;show⟨r,h1,keep a,d.on ha⟩
  .rw [jV hz] at b;obtain⟨r,h1,a,d⟩:=ih z k b;show⟨r,h1,keep a,d⟩
theorem Drv.eq{S:Str->Prop}(h:Drv A S c)(p:Str->Nat)(b:∀ s,S s->p s=0)(d:∀ x y,A x y->p y=1-p x):∀ z k,c z=some k->k=p z:=by
 induction h with
 | nil=>intro z k e;cases e
 | @start c s h hs e ih =>
  intro z k a;by_cases hz:z=s
  .subst hz;rw[jf] at a;cases a;show(b z hs).symm
  .rw [jV hz] at a;show ih z k a
 | @step c y z' j h hy ht e ih =>
  intro z k a;by_cases hz:z=z'
  .subst hz;rw[jf] at a;cases a;rw[d y z ht,ih y j hy]
  .rw [jV hz] at a;show ih z k a
def Fst(A:Str->Str->Prop)(ss:LS)(z:Str):Prop:=∃ i:Nat,ss[i]?=some z/\∀(j:Nat) y,j<i->ss[j]?=some y->¬ Rc A y z
theorem Fst.one(as:∀ a b,A a b->A b a)(e:Fst A ss a)(hb:Fst A ss b)(h:Rc A a b):a=b:=by
 obtain⟨i,d,f⟩:=e;obtain⟨j,c,g⟩:=hb;rcases XW i j with l | l | l
 .show absurd h (g i a l d)
 .subst l;rw[d] at c;cases c;rfl
 .show absurd (h.symm as) (f j b l c)
theorem Drv.two{d:Str->Option Nat}(hc:Drv A (Fst A ss) c)(q:Drv A (Fst A ss) d)(as:∀ a b,A a b->A b a)(inn:∀ a b,A a b->a∈ss)(all:∀ s∈ss,∃ k,c s=some k)(ok:∀ x y,A x y->c x≠c y):∀ z k,d z=some k->c z=some k:=by
 have l:∀{s},s∈ss->c s=some ((c s).getD 0):=fun{s} f=>by obtain⟨k,e⟩:=all s f;rw[e];rfl
 have p:∀{s},Fst A ss s->s∈ss:=fun⟨i,e,_⟩=>ye e;have key:=q.eq (fun z=>(c z).getD 0) (fun s f=>?_) fun x y h=>?_
 .intro z k e;obtain⟨s,h1,_,g⟩:=q.root z k e
  have hz:z∈ss:=by
   cases g with
   | refl=>show p h1
   | on _ t=>show inn _ _ (as _ _ t)
  rw[l hz,key z k e]
 .obtain⟨k,e⟩:=all s (p f);obtain⟨r,h1,u,g⟩:=hc.root s k e;rw[<- h1.one as f g];show(c r).getD 0=0;rw[u];rfl
 .obtain⟨i,m⟩:=all x (inn x y h);obtain⟨j,o⟩:=all y (inn y x (as _ _ h));have n:=ok x y h;have l1:=hc.lt x i m;have l2:=hc.lt y j o;show(c y).getD 0=1-(c x).getD 0;rw[m,o] at n ⊢;show j=1-i;have:i≠j:=fun z=>n (by rw[z]);lk
theorem WyI.share(h:WyI A m){x:Str}{q:LS}(l:m a=some r)(n:m b=some q)(f:r[i]?=some x)(s:x∈q):q[i]?=some x/\r.take (i+1)=q.take (i+1):=by
 obtain⟨j,c⟩:=yf s;have g:=h.pre a r l i x f;have d:=h.pre b q n j x c;rw[g] at d;have e:=ym d;have l1:=congrArg List.length e;have o:=(yc.mp f).1;have p:=(yc.mp c).1;rw[yK,yK] at l1;have:i=j:=by lk
 subst this;show⟨c,e⟩
theorem Ul:FnScope ["_law_script","_law_k"] ["_law_script","_law_k"] (qh qc9):=fS
theorem Uj:FnScope ["_law_cell"] ["_law_cell"] (qh qbU):=fS
theorem KR:FnScope ["_law_box_here","_law_many","_law_digit","_law_number","_law_rest"] ["_law_box_here","_law_many"] (qh qa3):=fS
inductive spCe(K:W.Frag)(vs:List V)(H:Hp)(Q:VK)(E:XK):Prop|mk (a:Addr) (ns:LX) (k:Nat) (_:vs=[.ref a,.int (k:Int)]) (_:SqL K H a (ns.map V.int)) (_:k<1000) (_:∀ i:Int,Q (.int i) H)
def Pn(N:Nat)(H:Hp)(p:Addr):Prop:=∃ a b c:Int,H p=some (.lst [.int a,.int b,.int c])/\0<=a/\0<=b/\b<2147483629/\0<=c/\c+(N:Int)<=1099511627776
theorem Pn.mono{N:Nat}(h:Pn N H p)(l:M<=N):Pn M H p:=by
 obtain⟨a,b,c,e,h1,d,f,g,i⟩:=h;show⟨a,b,c,e,h1,d,f,g,by lk⟩
theorem Pn.same{N:Nat}(h:Pn N H p)(s:L2.Same H H'):Pn N H' p:=by
 obtain⟨a,b,c,e,r⟩:=h;show⟨a,b,c,s _ _ e,r⟩
theorem Pn.new{N:Nat}{l:Addr}(h:Pn N H p)(hl:H l=none):Pn N (upd H l o) p:=h.same (qC (Sr H) hl)
theorem Pn.apart{N:Nat}{l:Addr}(h:Pn N H p)(hl:H l=none):l≠p:=fun z=>by obtain⟨a,b,c,e,r⟩:=h;rw[z,e] at hl;cases hl
inductive spPu(vs:List V)(H:Hp)(Q:VK)(E:XK):Prop|mk (c:Int) (_:vs=[.int c]) (_:∀(p:Addr) (H':Hp),L2.Same H H'->H p=none->Pn 1000000000000 H' p->Q (.ref p) H')
inductive spTkN(vs:List V)(H:Hp)(Q:VK)(E:XK):Prop|mk (p:Addr) (m N:Nat) (_:vs=[.ref p,.int (m:Int)]) (_:Pn (N+1) H p) (_:0<m) (_:m<1000) (_:∀(d:Nat) (H':Hp),d<m->But p H H'->Pn N H' p->Q (.int (d:Int)) H')
theorem But.trans7(a:But p H H1)(b:But p H1 H2):But p H H2:=fun c o n e=>b c o n (a c o n e)
theorem But.new7{l:Addr}(a:But p H H1)(hl:H1 l=none):But p H (upd H1 l o):=fun c u n e=>by
 have:=a c u n e;have ne:c≠l:=fun z=>by rw[z,hl] at this;cases this
 rw[qf ne];show this
theorem But.free7{l:Addr}(a:But p H H1)(b:l≠p)(hl:H1 l=none):H l=none:=by
 cases e:H l with
 | none=>rfl
 | some o=>rw[a l o b e] at hl;cases hl
noncomputable abbrev iV(k:Nat):V:=.int (k:Int)
theorem ok_ce(F:Fun K "_law_at" "_law_at" qc9 f fd)(T:Txt K mg cc cw):FnOk P w K mg base CX0 1 f fd ["_law_script","_law_k"] (spCe K):=by
 show F.ok Ul fun _ _ _ _ H vs Q E d h=>?_
 .obtain⟨a,ns,k,rfl,b,h1,q⟩:=h;have e:=ze d;show⟨_,(qc (qM (qj qdc (pv 1) (qr (zj (K:=K) rfl) rfl T.b_len YS (qa (pv 0) qd)) (qw _)) (qe (qo (qt (qu (K:=K) rfl e) (pv 0) (pv 1) (fun _ _=>rfl)))) qq)
 (qe (qo (qE (j6 (K:=K) rfl) (qE qcz qg (pv 1)) qg)))),?_⟩
  apply vLenLs b ?_;rw[ya];ext;by_cases c:k<ns.length
  .rw [yD (show(k:Int)<(ns.length:Int) by lk)];show zA ?_;apply .inl (vIxLs b (v:=.int ns[k]) (qx (by rw[yd,yb c];rfl)) ?_);show q _
  .rw [yl (show ¬ (k:Int)<(ns.length:Int) by lk)];show yq ?_;apply qcB (.inl ⟨by decide,by decide⟩) ?_;apply q _
theorem ok_pu(F:Fun K "_law_box" "_law_box" qbU f fd)(T:Txt K mg cc cw):FnOk P w K mg base CX0 1 f fd ["_law_cell"] spPu:=by
 show F.ok Uj fun _ _ _ _ H vs Q E d h=>?_
 .obtain⟨c,rfl,q⟩:=h;show⟨_,(qe (qo (jg (qa (qr (call_max2 rfl) rfl T.b_max boot_max (qa qg (qa (qE qbq (pv 0) (qE op_pow qg qg)) qd))) (qa (qE zw (pv 0) qg) (qa qg qd)))))),?_⟩;apply vI ⟨by decide,by decide,by decide⟩ ?_;apply⟨_,_,rfl,?_⟩;apply vI (by decide) ?_;apply⟨by show 3<=sizeLine;decide,fun p a=>?_⟩;have h1:=Xl c (show(2147483629:Int)≠0 by decide);have b:=xK c (show(0:Int)<2147483629 by decide);show q p _ (qC (Sr H) a) a ⟨_,_,_,qb,by split<;>lk,h1,b,by decide,by decide⟩
theorem ok_tkp(F:Fun K "_law_take" "_law_take" qa3 f fd)(T:Txt K mg cc cw):FnOk P w K mg base CX0 1 f fd ["_law_box_here","_law_many"] spTkN:=by
 show F.ok KR fun _ _ _ _ H vs Q E W h=>?_
 .obtain⟨p,m,N,rfl,⟨a,b,c,L,A,hb,l,hc,S⟩,X,h1,q⟩:=h;have g:=ze W;have r:(0:Int)<(m:Int):=by lk
  show⟨_,(qc (jw (qE (j6 (K:=K) rfl) (qt (qu (K:=K) rfl g) (pv 0) qg (fun _ _=>rfl)) qg) (jI (pv 0) qg (jJ g)))
 (qc (qM (qj qdd (qt (qu (K:=K) rfl g) (pv 0) qg (fun _ _=>rfl)) qg (qw _)) (qc (qm (i:=2) KR.nd rfl (yP rfl) (qE zw (qt (qu (K:=K) rfl g) (pv 0) qg (fun _ _=>rfl)) (pv 1)))
 (qc (jw (qE qbG (qt (qu (K:=K) rfl g) (pv 0) qg (fun _ _=>rfl)) (pv 1)) (jI (pv 0) qg (jJ g)))
 (qe (qo (pv 2))))) qq)
 (qc (qm (i:=3) KR.nd rfl (yP rfl) (qE zw (qE (j6 (K:=K) rfl) (qE (j6 (K:=K) rfl) (qE qcz (qt (qu (K:=K) rfl g) (pv 0) qg (fun _ _=>rfl)) qg) (qE qcz qg (qt (qu (K:=K) rfl g) (pv 0) qg (fun _ _=>rfl)))) qg) qg))
 (qc (qm (i:=4) KR.nd rfl (yP rfl) (qE (j6 (K:=K) rfl) (qE (j6 (K:=K) rfl) (qE qbG (pv 3) qg) (qE qcz (qt (qu (K:=K) rfl g) (pv 0) qg (fun _ _=>rfl)) (qt (qu (K:=K) rfl g) (pv 0) qg (fun _ _=>rfl)))) qg))
 (qc (qm (i:=3) KR.nd rfl (yP rfl) (qE zw (qE qcz (qE (j6 (K:=K) rfl) (qE zw (pv 3) qg) qg) (pv 4)) qg))
 (qe (qo (qE zw (qE qbG (qE zw (qE qcz (pv 3) (qE (j6 (K:=K) rfl) (qE qbG (pv 3) qg) qg)) qg) qg) (pv 1))))))))),?_⟩
  apply .inl (zX L rfl ?_);apply .inl (qea L rfl ?_);have y:But p H (upd H p (.lst [.int a,.int b,.int (c+1)])):=fun x o n e=>by rw[qf n];show e
  have d:upd H p (.lst [.int a,.int b,.int (c+1)]) p=some (.lst [.int a,.int b,.int (c+1)]):=qb;have R:upd H p (.lst (([V.int a,.int b,.int c]).set (2:Int).toNat (.int (c+1))))=upd H p (.lst [.int a,.int b,.int (c+1)]):=rfl;ext;rw[R];generalize upd H p (.lst [.int a,.int b,.int (c+1)])=H1 at y d;show .inl (zX d rfl ?_);apply qJ (fun U=>?_) (fun U=>?_)
  .ext;show .inl (zX d rfl ?_);apply vI r ?_;apply .inl (zX d rfl ?_);apply vI ⟨r,by lk⟩ ?_;apply .inl (qea d rfl ?_);ext;have M:=Xl a (show(m:Int)≠0 by lk);have O:=xK a r;have z:a % (m:Int)=(((a % (m:Int)).toNat:Nat):Int):=by lk
   rw[z];show q _ _ (by lk) (fun x o n e=>by rw[qf n];show y x o n e) ⟨_,_,_,qb,Int.ediv_nonneg A (by lk),hb,l,by lk,by lk⟩
  .ext;show .inl (zX d rfl ?_);apply qcB (.inr ⟨by decide,by decide⟩) ?_;apply .inl (zX d rfl ?_);apply qcB (.inl ⟨by decide,by decide⟩) ?_;apply vI (by decide) ?_;ext;generalize s:(b*48271+6007*(c+1)+29) % 2147483647=j;have D:0<=j:=by rw[<- s];show Xl _ (by decide)
   have G:j<2147483647:=by rw[<- s];show xK _ (by decide)
   show vI ⟨by decide,by decide⟩ ?_;apply .inl (zX d rfl ?_);apply .inl (zX d rfl ?_);show qcB (.inl ⟨by lk,by lk⟩) ?_;apply vI (by decide) ?_;ext;have B:=Xl j (show(65537:Int)≠0 by decide);have C:=xK j (show(0:Int)<65537 by decide);show qcB (.inl ⟨by lk,by lk⟩) ?_;apply vI (by decide) ?_;generalize t:(j % 65537+11)*(j / 65537+(c+1)*(c+1)+5) % 2147483587=u;have I:0<=u:=by rw[<- t];show Xl _ (by decide)
   have J:u<2147483587:=by rw[<- t];show xK _ (by decide)
   apply vI ⟨by decide,by decide⟩ ?_;apply qcB (.inl ⟨by lk,by lk⟩) ?_;apply vI (by decide) ?_;apply vI ⟨by decide,by decide⟩ ?_;apply vI r ?_;generalize u*(u / 1009+3) % 1000000007 / 13=v;have M:=Xl v (show(m:Int)≠0 by lk);have O:=xK v r;have z:v % (m:Int)=(((v % (m:Int)).toNat:Nat):Int):=by lk
   rw[z];show q _ _ (by lk) y ⟨_,_,_,d,A,hb,l,by lk,by lk⟩
theorem Kk:FnScope ["_law_box_here","_law_many","_law_letters","_law_base","_law_first","_law_long","_law_at_here","_law_step","_law_end","_law_names_here","_law_k","_law_sign"] ["_law_box_here","_law_many"] (qh zh):=fS
theorem qbj{X:L2.Cx}{st:List PySem.Stmt}{t:L2.TS}(t':L2.TS)(h:L2.PSs X st t)(k:∀ D b H,t' D b H->t D b H):L2.PSs X st t':=fun a s b H D I q=>h a s b H D I (k D b H q)
theorem eqv_decJ(a b:Int):(if false=true then !eqV (V.int a) (V.int b) else eqV (V.int a) (V.int b))=decide (a=b):=by
 rw[yE (by decide)];unfold eqV;by_cases h:a=b<;>simp[h]
theorem qed{i j:Int}{Q:VK}(q:Q (.bl (decide (i=j))) H):qfi K (.int i) (.int j) H Q:=.inl (.inl (.inl ⟨rfl,rfl,by rw[eqv_decJ];show q⟩))
noncomputable def stepsA:LN:=[3,7,25]
noncomputable def cA(first step j:Nat):Nat:=97+(first+step*j) % 26
theorem cA_sg(first step j:Nat):sg (cA first step j)=true:=by unfold cA;show qeP (by lk) (by lk)
theorem cA_inj{first step:Nat}(a:step∈stepsA){k:Nat}(b:j<14)(c:k<14)(e:cA first step j=cA first step k):j=k:=by
 unfold cA at e;simp only[stepsA,yz,yM,Yt] at a;rcases a with rfl | rfl | rfl<;>lk
theorem zu(s:Str):s.length=s.cps.toList.length:=by simp[Str.length]
inductive spNmA(vs:List V)(H:Hp)(Q:VK)(E:XK):Prop|mk (p:Addr) (m N:Nat) (_:vs=[.ref p,.int (m:Int)]) (_:Pn (N+16) H p) (_:m<=14) (_:∀(l:Addr) (ss:LS) (H':Hp),But p H H'->Pn N H' p->H l=none->l≠p->H' l=some (.lst (ss.map V.str))->NOk ss->ss.length=m->Q (.ref l) H')
theorem qdX{y:Option V}{Q:V->Hp->Prop}(C:n<=100)(u:Pn (M+n) H1 p)(q:∀(b:LS) (J:Hp) (l:Addr),But p H1 J->Pn M J p->b.length=n->(∀ x∈b,x.length=1/\x.cps.toList.all sg=true)->J l=none->Q (.ref l) (upd J l (.lst (b.map V.str)))) :
  qdg (Itr 0 n) (qbk 0) qfD (tOp (qfx K) (qeY 1) (qde spTkN [] E0 (qd7 (qeY 2) (qd7 (tC (.int 26)) qe6)))) [y,some (.str L26),some (.ref p)] H1 Q:=by
 show qbw (lo:=0) (n:=n) (fun i ys J=>i<=n/\But p H1 J/\Pn (M+(n-i)) J p/\∃ xs:LS,ys=xs.map V.str/\xs.length=i/\∀ x∈xs,x.length=1/\x.cps.toList.all sg=true) ⟨YW _,fun c o _ e=>e,u,[],rfl,rfl,fun _ h=>by cases h⟩ (fun i ys J B j=>?_) fun ys J j=>?_
 .obtain⟨_,d,a,xs,rfl,s,m⟩:=j;apply zA ?_;apply⟨p,26,M+(n-(i+1)),rfl,a.mono (by lk),by decide,by decide,fun r A v t f=>?_⟩;show .inl (qfJ (by room) (qdN (by lk) (by lk)) ?_);show⟨by rw[ya];show qi (by lk),by lk,d.trans7 t,f,xs++[_],by rw[yC];rfl,by rw[yt,s];rfl,fun x w=>?_⟩;rcases yx.mp w with z | z
  .show m x z
  .rw [yv.mp z];show⟨rfl,?_⟩;have:=qeP (c:=97+r) (by lk) (by lk);simp[this]
 .obtain⟨_,d,a,b,rfl,g,h1⟩:=j;show⟨by rw[ya];show yT (qi (by lk)),fun l hl=>q b J l d (a.mono (by lk)) g h1 hl⟩
theorem qeA{a:LS}(h1:∀ x∈a,x.length=1/\x.cps.toList.all sg=true):(Txt.join "" a).length=a.length/\(Txt.join "" a).cps.toList.all sg=true:=by
 show⟨join_len fun x b=>(h1 x b).1,?_⟩;have e:Txt.join "" a=Str.join "" a:=Ye.mp (join_plain_closes "" a);rw[e];show qc4 fun x b=>(h1 x b).2
theorem ok_nmA(F:Fun K "_law_names" "_law_names" zh f fd)(T:Txt K mg cc cw)(U:DefOk P w K mg base CX0 1 "_law_take" ["_law_box_here","_law_many"] spTkN):FnOk P w K mg base CX0 2 f fd ["_law_box_here","_law_many"] spNmA:=by
 show F.ok Kk fun _ _ _ s H vs Q E S h=>?_
 .obtain⟨p,m,N,rfl,hB,hm,q⟩:=h;have hu:=ze S;obtain⟨TC2,ac⟩:∃ t:TS,t=fun D σ H'=>(∀ u H',Q u H'->D.rt u H')/\∃(x3 x4 x5 x6 x7 x8 x9 b g:Option V),σ=[some (.ref p),some (.int (m:Int)),some (.str L26),x3,x4,x5,x6,x7,x8,x9,b,g]/\But p H H'/\Pn (N+15) H' p:=⟨_,rfl⟩;obtain⟨TC8,ad⟩:∃ t:TS,t=fun D σ H'=>(∀ u H',Q u H'->D.rt u H')/\∃(x5 x9 b g:Option V) (base:Str) (first at_ step e:Nat),σ=[some (.ref p),some (.int (m:Int)),some (.str L26),some (.str base),some (.int (first:Int)),x5,some (.int (at_:Int)),some (.int (step:Int)),some (.str ⟨#[e]⟩),x9,b,g]/\But p H H'/\Pn N H' p/\step∈stepsA/\base.length<=4/\base.cps.toList.all sg=true/\at_<=base.length/\sg e=true:=⟨_,rfl⟩;show⟨_,(qc (qm (i:=2) Kk.nd rfl (Xu rfl) jH)
 (qc (qM (PW.pt (qaS (qj qdc (pv 1) qg (qw _)) (qal (qj (zG (K:=K) rfl hu) (qp U (hmR S) qz (qa (pv 0) (qa qg qd))) qg (qw _))))) (qc (qm (i:=3) Kk.nd rfl (Xu rfl) (qby (K:=K) rfl PySem.F.plainAttrs_str PySem.F.slot_str_join PySem.F.type_str_join (qej (K:=K) rfl) jH (qa (jG (sc:=qh zh) (XN:=["_law_box_here","_law_many","_law_letters","_law_base","_law_first","_law_long","_law_at_here","_law_step","_law_end","_law_names_here","_law_k","_law_sign"]) ["_law_k","_law_letters","_law_box_here"] 1 [2,0] rfl rfl rfl (by room) rfl (by room)
  (zv rfl T.b_range (qa qg qd)) (fun _ _ _ _=>(qk (i:=0) (show(["_law_k","_law_letters","_law_box_here"]:LS).Nodup by room) rfl (yP rfl))) qW
  (fun _ _ _ _=>zm)
  (fun _ _ _ _=>(qt (qu (K:=K) rfl hu) (pv 1) (qp U (hmR S) qz (qa (pv 2) (qa qg qd))) (fun _ _=>rfl)))) qd)))
 (qc (qm (i:=4) Kk.nd rfl (Xu rfl) (qp U (hmR S) qz (qa (pv 0) (qa qg qd))))
 (qe (qo (jG (sc:=qh zh) (XN:=["_law_box_here","_law_many","_law_letters","_law_base","_law_first","_law_long","_law_at_here","_law_step","_law_end","_law_names_here","_law_k","_law_sign"]) ["_law_k","_law_base","_law_first"] 1 [3,4] rfl rfl rfl (by room) rfl (by room)
  (zv rfl T.b_range (qa (pv 1) qd)) (fun _ _ _ _=>(qk (i:=0) (show(["_law_k","_law_base","_law_first"]:LS).Nodup by room) rfl (yP rfl))) qW
  (fun _ _ _ _=>zm)
  (fun _ _ _ _=>(jt (qdj (K:=K) rfl) (pv 1) j4 (jr (qE (j6 (K:=K) rfl) qg (qE zw (qE (j6 (K:=K) rfl) (pv 2) (pv 0)) qg)))))))))) qq)
 (qbj TC2 (qc (qm (i:=5) Kk.nd rfl (yP rfl) (qp U (hmR S) qz (qa (pv 0) (qa qg qd))))
 (qc (qm (i:=3) Kk.nd rfl (Xu rfl) (qby (K:=K) rfl PySem.F.plainAttrs_str PySem.F.slot_str_join PySem.F.type_str_join (qej (K:=K) rfl) jH (qa (jG (sc:=qh zh) (XN:=["_law_box_here","_law_many","_law_letters","_law_base","_law_first","_law_long","_law_at_here","_law_step","_law_end","_law_names_here","_law_k","_law_sign"]) ["_law_k","_law_letters","_law_box_here"] 1 [2,0] rfl rfl rfl (by room) rfl (by room)
  (zv rfl T.b_range (qa (pv 5) qd)) (fun _ _ _ _=>(qk (i:=0) (show(["_law_k","_law_letters","_law_box_here"]:LS).Nodup by room) rfl (yP rfl))) qW
  (fun _ _ _ _=>zm)
  (fun _ _ _ _=>(qt (qu (K:=K) rfl hu) (pv 1) (qp U (hmR S) qz (qa (pv 2) (qa qg qd))) (fun _ _=>rfl)))) qd)))
 (qc (qm (i:=6) Kk.nd rfl (yP rfl) (qp U (hmR S) qz (qa (pv 0) (qa (qE (j6 (K:=K) rfl) (qr (zj (K:=K) rfl) rfl T.b_len YS (qa (pv 3) qd)) qg) qd))))
 (qc (qm (i:=4) Kk.nd rfl (Xu rfl) (qp U (hmR S) qz (qa (pv 0) (qa qg qd))))
 (qc (qm (i:=7) Kk.nd rfl (yP rfl) (qt (qu (K:=K) rfl hu) (jg (qa qg (qa qg (qa qg qd)))) (qp U (hmR S) qz (qa (pv 0) (qa qg qd))) (fun _ _=>rfl)))
 (qc (qm (i:=8) Kk.nd rfl (yP rfl) (qt (qu (K:=K) rfl hu) (pv 2) (qp U (hmR S) qz (qa (pv 0) (qa qg qd))) (fun _ _=>rfl)))
 (qbj TC8 (qc (qm (i:=9) Kk.nd rfl (yP rfl) (jg qd))
 (qc (jo yZ rfl (zv rfl T.b_range (qa (pv 1) qd)) (qk (i:=10) Kk.nd rfl (yP rfl))
 (qc (qm (i:=11) Kk.nd rfl (yP rfl) (qt (qu (K:=K) rfl hu) (pv 2) (qE zw (qE (j6 (K:=K) rfl) (pv 4) (qE qcz (pv 7) (pv 10))) qg) (fun _ _=>rfl)))
 (qe (qQ (qby (K:=K) rfl yV Yi Yj je (pv 9) (qa (qE (j6 (K:=K) rfl) (qE (j6 (K:=K) rfl) (qE (j6 (K:=K) rfl) (jt (qdj (K:=K) rfl) (pv 3) j4 (jr (pv 6))) (pv 11)) (jt (qdj (K:=K) rfl) (pv 3) (jr (pv 6)) j4)) (qt (qu (K:=K) rfl hu) (jg (qa jH (qa (pv 8) qd))) (qE zw (pv 10) qg) (fun _ _=>rfl))) qd))))))
 (qe (qo (pv 9))))) ?cut8))))))) ?cut2))),?_⟩
  case cut8 =>
   intro D σ H1 h;rw[ad] at h;obtain⟨hD,x5,x9,b,g,base,first,at_,step,e,rfl,b1,hB1,L,ba,ai,ao,ax⟩:=h;have lB:=zu base
   have bc:0<step/\step<=25:=by
    have h:=L;simp only[stepsA,yz,yM,Yt] at h;lk
   have et:=qbB base at_;have ed:=slice_drop base at_;have lt:(Txt.slice base none (some (at_:Int))).length=at_:=by rw[zu,et,yK];lk
   have ld:(Txt.slice base (some (at_:Int)) none).length=base.length-at_:=by rw[zu,ed,Yp];lk
   apply⟨by show 0<=sizeLine;decide,fun l hl=>?_⟩;have A:=hB1.apart hl;apply⟨(m:Int),rfl,by lk,by lk,?_⟩;rw[YB];show qa5 (lo:=0) (n:=m) (fun i σ J=>∃(ss:LS) (b g:Option V),σ=[some (.ref p),some (.int (m:Int)),some (.str L26),some (.str base),some (.int (first:Int)),x5,some (.int (at_:Int)),some (.int (step:Int)),some (.str ⟨#[e]⟩),some (.ref l),b,g]/\But p H1 J/\Pn N J p/\J l=some (.lst (ss.map V.str))/\ss.length=i/\∀(j:Nat) s,ss[j]?=some s->zx s=true/\s.cps.toList[at_]?=some (cA first step j)) ⟨[],_,_,rfl,But.new7 (fun c o _ e=>e) hl,hB1.new hl,qb,rfl,fun j s h=>by simp at h⟩ (fun i σ J hi hp=>?_) fun σ J hp=>?_
   .obtain⟨ss,b,g,rfl,W,r,Y,G,I⟩:=hp;rw[Int.zero_add];apply qcB (.inl ⟨by lk,by lk⟩) ?_;apply vI (by decide) ?_;have ec:((first:Int)+(step:Int)*(i:Int)) % 26=(((first+step*i) % 26:Nat):Int):=by lk
    rw[ec];show .inl (qfJ (by room) (qdN (by lk) (by lk)) ?_);rw[YB];have ap:97+(first+step*i) % 26=cA first step i:=rfl;rw[ap];have aj:=cA_sg first step i;generalize aq:cA first step i=y at aj;have ah:(ss.map V.str).length<sizeLine:=by rw[ya];show qi (by lk)
    apply⟨.inl ⟨rfl,_,.of Y⟩,?_⟩;apply qfK (yT (qi (by lk))) ?_;apply qeJ (by rw[lt];show _+1<=sizeLine;show yT (qi (by lk))) ?_;have e2:(Txt.slice base none (some (at_:Int))++(⟨#[y]⟩:Str)).cps.toList=base.cps.toList.take at_++[y]:=by rw[qaH,et]
    have l2:(Txt.slice base none (some (at_:Int))++(⟨#[y]⟩:Str)).length=at_+1:=by rw[zu,e2,yt,yK];simp only[yy,Ym];lk
    generalize Txt.slice base none (some (at_:Int))++(⟨#[y]⟩:Str)=s2 at e2 l2;apply qfK (yT (qi (by lk))) ?_;show qeJ (by rw[l2,ld];show yT (qi (by lk))) ?_;have e3:(s2++Txt.slice base (some (at_:Int)) none).cps.toList=base.cps.toList.take at_++[y]++base.cps.toList.drop at_:=by rw[qaH,ed,e2]
    have l3:(s2++Txt.slice base (some (at_:Int)) none).length=base.length+1:=by rw[zu,e3];simp only[yt,yK,Yp,yy,Ym];lk
    generalize s2++Txt.slice base (some (at_:Int)) none=s3 at e3 l3;apply⟨by show 2<=sizeLine;decide,fun m2 Z=>?_⟩;have s4:=qC (Sr J) (o:=.lst [.str "",.str ⟨#[e]⟩]) Z;have em:upd J m2 (.lst [.str "",.str ⟨#[e]⟩]) m2=some (.lst [.str "",.str ⟨#[e]⟩]):=qb;generalize upd J m2 (.lst [.str "",.str ⟨#[e]⟩])=J2 at s4 em;apply vI (by decide) ?_;have eI:(i:Int) % 2=((i % 2:Nat):Int):=by lk
    rw[eI]
    obtain⟨z,hz,aa,ay⟩:∃ z:Str,[V.str "",.str ⟨#[e]⟩][i % 2]?=some (.str z)/\z.length<=1/\z.cps.toList.all sg=true:=by
     have h2:i % 2=0\/i % 2=1:=by lk
     rcases h2 with h | h<;>rw[h]
     .show⟨"",rfl,by decide,rfl⟩
     .show⟨⟨#[e]⟩,rfl,yh _,by simp[ax]⟩
    show .inl (zX em (v:=.str z) (qx hz) ?_);show qeJ (by rw[l3];show yT (qi (by lk))) ?_;have e4:(s3++z).cps.toList=base.cps.toList.take at_++[y]++base.cps.toList.drop at_++z.cps.toList:=by rw[qaH,e3]
    have l4:(s3++z).cps.toList.length=base.length+1+z.length:=by rw[e4];simp only[yt,yK,Yp,yy,Ym];rw[zu z];lk
    have au:=s4 _ _ Y;apply⟨l,_,_,rfl,rfl,au,ah,?_⟩;have av:l≠p:=A;have an:H1 l=none:=hl;show⟨ss++[s3++z],_,_,rfl,fun c o hc ee=>?_,?_,by rw[qb,yC];rfl,by rw[yt,G];rfl,fun j s' a=>?_⟩
    .rw [qf (fun z=>by rw[z,an] at ee;cases ee)];show s4 _ _ (W c o hc ee)
    .obtain⟨a1,a2,a3,a4,a5⟩:=r.same s4;show⟨a1,a2,a3,by rw[qf (Yd av)];show a4,a5⟩
    .by_cases ae:j<ss.length
     .rw [yF ae] at a;show I j s' a
     .rw [yB (by lk)] at a
      have e0:j-ss.length=0:=by
       have:=(yc.mp a).1;simp only[yy,Ym] at this;lk
      rw[e0] at a;cases a;have C:j=i:=by lk
      rw[C,aq];show⟨qc6 e4 (by rw[<- e4,l4];lk) (by rw[<- e4,l4];lk) ?_,?_⟩
      .rw [XG,XG,XG,ay];have t1:(base.cps.toList.take at_).all sg=true:=Ys.mpr fun c hc=>Ys.mp ai c (List.mem_of_mem_take hc);have t2:(base.cps.toList.drop at_).all sg=true:=Ys.mpr fun c hc=>Ys.mp ai c (Xw hc);rw[t1,t2];simp[aj]
      .rw [e4,yW,yW,yB (by rw[yK];lk),yK];have:at_-min at_ base.cps.toList.length=0:=by lk
       rw[this];rfl
   .obtain⟨ss,b,g,rfl,W,r,Y,G,I⟩:=hp;apply hD _ _ (q l ss _ (b1.trans7 W) r (b1.free7 A hl) A Y ⟨by lk,qcq fun j k s a hk=>?_,fun s hs=>?_⟩ G)
    .have ar:j<ss.length:=(yc.mp a).1;have as:k<ss.length:=(yc.mp hk).1;have e1:=(I j s a).2;rw[(I k s hk).2] at e1;show(cA_inj L (by lk) (by lk) (ym e1)).symm
    .obtain⟨j,a⟩:=yf hs;show(I j s a).1
  case cut2 =>
   intro D σ H1 h;rw[ac] at h;obtain⟨hD,x3,x4,x5,x6,x7,x8,x9,b,g,rfl,b1,hB1⟩:=h;apply⟨p,5,N+14,rfl,hB1,by decide,by decide,fun lo H2 bb b2 ak=>?_⟩;apply⟨rfl,?_⟩;apply⟨(lo:Int),rfl,by lk,by lk,?_⟩;rw[YB];show qdX (M:=N+10) (by lk) (ak.mono (by lk)) fun R J l W r aa O hl=>?_;ext;obtain⟨j1,j2⟩:=qeA O;show⟨_,l,R,rfl,rfl,SqL.of qb,by rw[qc5 fun x hx=>(O x hx).1,show("":Str).length=0 by room];lk,?_⟩;rw[aa] at j1;generalize Txt.join "" R=base at j1 j2 ⊢;have b3:=(b1.trans7 b2).trans7 (W.new7 (o:=.lst (R.map V.str)) hl);have B:Pn (N+10) (upd J l (.lst (R.map V.str))) p:=r.new hl;generalize upd J l (.lst (R.map V.str))=H3 at b3 B;apply qfd (yT (qi (by lk))) ?_;apply⟨p,base.length+1,N+9,rfl,B,by lk,by lk,fun at_ H4 ao b4 X=>?_⟩;apply⟨p,26,N+8,rfl,X,by decide,by decide,fun first H5 hf b5 ag=>?_⟩;apply⟨by show 3<=sizeLine;decide,fun m2 Z=>?_⟩;have aw:=ag.apart Z;have s6:=qC (Sr H5) (o:=.lst (stepsA.map iV)) Z;have em:upd H5 m2 (.lst (stepsA.map iV)) m2=some (.lst (stepsA.map iV)):=qb;have eu:upd H5 m2 (.lst [V.int 3,V.int 7,V.int 25])=upd H5 m2 (.lst (stepsA.map iV)):=rfl;rw[eu];generalize upd H5 m2 (.lst (stepsA.map iV))=H6 at s6 em;apply⟨p,3,N+7,rfl,ag.same s6,by decide,by decide,fun d H7 hd b7 al=>?_⟩;obtain⟨st,L⟩:∃ st,stepsA[d]?=some st:=⟨_,yb hd⟩;show .inl (zX (b7 _ _ aw em) (v:=iV st) (qx (by rw[yd,L];rfl)) ?_);apply⟨p,26,N+6,rfl,al,by decide,by decide,fun e H8 he b8 am=>?_⟩;show .inl (qfJ (by room) (qdN (by lk) (by lk)) ?_);rw[YB];ext;rw[ad];show⟨hD,_,_,_,_,base,first,at_,st,97+e,rfl,((((b3.trans7 b4).trans7 b5).trans7 fun c o _ e=>s6 c o e).trans7 b7).trans7 b8,am.mono (by lk),ye L,by lk,j2,by lk,qeP (by lk) (by lk)⟩
  have rest:∀ J,But p H J->Pn (N+15) J p->TC2 { nx:=fun _ H'=>Q .non H',rt:=Q } (List.set (L2.start ["_law_box_here","_law_many","_law_letters","_law_base","_law_first","_law_long","_law_at_here","_law_step","_law_end","_law_names_here","_law_k","_law_sign"] [V.ref p,V.int (m:Int)]) 2 (some (V.str L26))) J:=fun J W hJ=>by
   rw[ac];show⟨fun _ _ z=>z,_,_,_,_,_,_,_,_,_,rfl,W,hJ⟩
  apply qJ (fun h7=>?_) (fun h7=>?_)
  .have az:m<7:=by have:=yk h7;lk
   apply⟨p,4,N+15,rfl,hB,by decide,by decide,fun d H1 hd b1 hB1=>?_⟩;apply qed ?_;apply qJ (fun h0=>?_) (fun h0=>?_)
   .ext;show⟨rfl,?_⟩;apply⟨6,rfl,by decide,by decide,?_⟩;show qdX (n:=6) (M:=N+9) (by lk) (hB1.mono (by lk)) fun R J l W r aa O hl=>?_;ext;obtain⟨j1,j2⟩:=qeA O;show⟨_,l,R,rfl,rfl,SqL.of qb,by rw[qc5 fun x hx=>(O x hx).1,show("":Str).length=0 by room];lk,?_⟩;rw[aa] at j1;generalize Txt.join "" R=base at j1 j2 ⊢;have b3:=b1.trans7 (W.new7 (o:=.lst (R.map V.str)) hl);have B:Pn (N+9) (upd J l (.lst (R.map V.str))) p:=r.new hl;generalize upd J l (.lst (R.map V.str))=H3 at b3 B;apply⟨p,6,N+8,rfl,B,by decide,by decide,fun first H4 hf b4 X=>?_⟩;apply⟨(m:Int),rfl,by lk,by lk,?_⟩;rw[YB];have lB:=zu base;show qbw (lo:=0) (n:=m) (fun i ys J=>J=H4/\∃ xs:LS,ys=xs.map V.str/\xs.length=i/\∀(j:Nat) x,xs[j]?=some x->x.length=1+(first+j) % 6/\zx x=true) ⟨rfl,[],rfl,rfl,fun j x h=>by simp at h⟩ (fun i ys J hi hs=>?_) fun ys J hs=>?_
    .obtain⟨rfl,xs,rfl,af,hx⟩:=hs;rw[Int.zero_add];apply zA ?_;apply vI (by decide) ?_;ext;have e1:(1:Int)+((first:Int)+(i:Int)) % 6=((1+(first+i) % 6:Nat):Int):=by lk
     rw[e1];show qfK (yT (qi (by lk))) ?_;have et:=qbB base (1+(first+i) % 6);generalize Txt.slice base none (some ((1+(first+i) % 6:Nat):Int))=z at et;have lz:z.length=1+(first+i) % 6:=by rw[zu,et,yK];lk
     show⟨by rw[ya];show qi (by lk),rfl,xs++[z],by rw[yC];rfl,by rw[yt,af];rfl,fun j x a=>?_⟩;by_cases ae:j<xs.length
     .rw [yF ae] at a;show hx j x a
     .rw [yB (by lk)] at a
      have e0:j-xs.length=0:=by
       have:=(yc.mp a).1;simp only[yy,Ym] at this;lk
      rw[e0] at a;cases a;have C:j=i:=by lk
      rw[C];show⟨lz,qc6 rfl ?_ ?_ ?_⟩
      .rw [<- zu,lz];lk
      .rw [<- zu,lz];lk
      .rw [et];show Ys.mpr fun c hc=>Ys.mp j2 c (List.mem_of_mem_take hc)
    .obtain⟨rfl,xs,rfl,af,hx⟩:=hs;show⟨by rw[ya];show yT (qi (by lk)),fun l5 h5=>?_⟩;have A:=X.apart h5;show q l5 xs _ ((b3.trans7 b4).new7 h5) ((X.mono (by lk)).new h5) ((b3.trans7 b4).free7 A h5) A qb ⟨by lk,qcq fun j k s a hk=>?_,fun s hs=>?_⟩ af
     .have ar:j<xs.length:=(yc.mp a).1;have as:k<xs.length:=(yc.mp hk).1;have e1:=(hx j s a).1;rw[(hx k s hk).1] at e1;lk
     .obtain⟨j,a⟩:=yf hs;show(hx j s a).2
   .ext;show rest H1 b1 hB1
  .show yq ?_;apply rest H (fun c o _ e=>e) (hB.mono (by lk))
theorem ur:FnScope ["way"] ["way"] (qh jP):=fS
theorem KB:FnScope ["web","start","ways","waiting","place","other"] ["web","start","ways"] (qh zc):=fS
inductive StW(A:Str->Str->Prop)(s:Str)(m:Str->Option (LS)):(Str->Option (LS))->Prop
 | refl:StW A s m m
 | step {m1:Str->Option (LS)} {y z:Str} {q:LS} (h:StW A s m m1) (hy:m1 y=some q) (hq:q[0]?=some s) (ha:A y z) (hz:m1 z=none):StW A s m (qbT m1 z (q++[z]))
theorem StW.ext(h:StW A s m m1):∀ z r,m z=some r->m1 z=some r:=by
 induction h with
 | refl=>show fun _ _ e=>e
 | @step m1 y z q h hy hq ha hz ih =>
  intro x r e;have a:=ih x r e;rw[q8 (fun k=>by rw[k,hz] at a;cases a)];show a
theorem StW.wy(h:StW A s m m1)(W:WyI A m):WyI A m1:=by
 induction h with
 | refl=>show W
 | step h hy hq ha hz ih=>show ih.step hy hz ha
theorem StW.root(h:StW A s m m1):∀ z r,m1 z=some r->m z=some r\/r[0]?=some s:=by
 induction h with
 | refl=>show fun _ _ e=>.inl e
 | @step m1 y z q h hy hq ha hz ih =>
  intro x r e;by_cases a:x=z
  .subst a;rw[qY] at e;cases e;show .inr ?_;rw[yF (yc.mp hq).1];show hq
  .rw [q8 a] at e;show ih x r e
theorem StW.inn(h:StW A s m m1)(inn:∀ a b,A a b->b∈ss)(d:∀ z r,m z=some r->z∈ss):∀ z r,m1 z=some r->z∈ss:=by
 induction h with
 | refl=>show d
 | @step m1 y z q h hy hq ha hz ih =>
  intro x r e;by_cases c:x=z
  .rw [c];show inn y z ha
  .rw [q8 c] at e;show ih x r e
theorem WyI.few(h:WyI A m)(a:∀ z r,m z=some r->z∈ss)(e:m z=some r):r.length<=ss.length:=
 jk (h.nd z r e) fun x c=>by obtain⟨q,b⟩:=h.key e c;show a x q b
theorem StW.drv{S:Str->Prop}(h:StW A s m m1)(D:Drv A S fun z=>(m z).map sdW):Drv A S fun z=>(m1 z).map sdW:=by
 induction h with
 | refl=>show D
 | @step m1 y z q h hy hq ha hz ih =>
  have k:=ih.step (y:=y) (z:=z) (j:=sdW q) (by rw[hy];rfl) ha (by rw[hz];rfl)
  have e:(fun x=>(qbT m1 z (q++[z]) x).map sdW)=qbi (fun z=>(m1 z).map sdW) z (1-sdW q):=by
   funext x;by_cases a:x=z
   .subst a;rw[qY,jf];show some (sdW (q++[x]))=_;unfold sdW;rw[yt];simp only[yy,Ym]
    congr 1
    lk
   .rw [q8 a,jV a]
  rw[e];show k
def WyV(N:Addr->Prop)(H:Hp)(o:Option V):Option (LS)->Prop
 | none=>o=none
 | some r=>∃ t,o=some (.ref t)/\¬ N t/\H t=some (.lst (r.map V.str))
def WyH(N:Addr->Prop)(H:Hp)(d:Addr)(ss:LS)(m:Str->Option (LS)):Prop:=∃ kvs,H d=some (.dK kvs)/\(∃ a:LS,kvs.length<=a.length/\a.Nodup/\∀ u∈a,u∈ss/\m u≠none)/\∀ s,WyV N H (jR kvs (.inr s:Key)) (m s)
theorem WyV.keep{a:Addr->Prop}{o:Option V}{r:Option (LS)}(h:WyV N H o r)(k:∀ t xs,¬ N t->H t=some (.lst xs)->¬ a t/\H' t=some (.lst xs)):WyV a H' o r:=by
 cases r with
 | none=>show h
 | some r=>obtain⟨t,h1,b,c⟩:=h;show⟨t,h1,k _ _ b c⟩
theorem WyH.same(h:WyH N H d ss m)(s:L2.Same H H'):WyH N H' d ss m:=by
 obtain⟨kvs,h1,a,b⟩:=h;show⟨kvs,s _ _ h1,a,fun z=>(b z).keep fun t xs n e=>⟨n,s _ _ e⟩⟩
theorem WyH.fresh{w:Addr}(h:WyH N H d ss m)(hw:H w=none):WyH (fun t=>t=w) H d ss m:=by
 obtain⟨kvs,h1,a,b⟩:=h;show⟨kvs,h1,a,fun z=>(b z).keep fun t xs n e=>⟨(fun k=>by rw[k,hw] at e;cases e),e⟩⟩
theorem WyH.weak(h:WyH N H d ss m):WyH (fun _=>False) H d ss m:=by
 obtain⟨kvs,h1,a,b⟩:=h;show⟨kvs,h1,a,fun z=>(b z).keep fun t xs n e=>⟨id,e⟩⟩
theorem WyH.updW{w:Addr}(h:WyH (fun t=>t=w) H d ss m)(c:w≠d):WyH (fun t=>t=w) (upd H w o) d ss m:=by
 obtain⟨kvs,h1,a,b⟩:=h;show⟨kvs,by rw[qf (Yd c)];show h1,a,fun z=>(b z).keep fun t xs n e=>⟨n,by rw[qf n];show e⟩⟩
theorem WyH.at(h:WyH N H d ss m)(e:m z=some r):∃ kvs t,H d=some (.dK kvs)/\jR kvs (.inr z:Key)=some (.ref t)/\H t=some (.lst (r.map V.str)):=by
 obtain⟨kvs,h1,f,a⟩:=h;have:=a z;rw[e] at this;obtain⟨t,b,_,c⟩:=this;show⟨kvs,t,h1,b,c⟩
theorem WyH.isSome(a:∀ s,WyV N H (jR kvs (.inr s:Key)) (m s))(z:Str):(jR kvs (.inr z:Key)).isSome=(m z).isSome:=by
 have:=a z
 cases e:m z with
 | none=>rw[e] at this;rw[show jR kvs (.inr z:Key)=none from this];rfl
 | some r=>rw[e] at this;obtain⟨t,b,_⟩:=this;rw[b];rfl
theorem WyH.put{t:Addr}(i:H d=some (.dK kvs))(l:∃ c:LS,kvs.length<=c.length/\c.Nodup/\∀ u∈c,u∈ss/\m u≠none)(hv:∀ s,WyV N H (jR kvs (.inr s:Key)) (m s))(hz:m z=none)(o:z∈ss)(j:¬ N t)(p:H t=some (.lst (r.map V.str))):WyH N (upd H d (.dK (jW kvs (Sum.inr z) (.ref t)))) d ss (qbT m z r):=by
 obtain⟨c,v,q,f⟩:=l;have h:∀ t' xs,H t'=some (.lst xs)->upd H d (.dK (jW kvs (Sum.inr z) (.ref t))) t'=some (.lst xs):=fun t' xs e=>by rw[qf (zB e i (by intro z;cases z))];show e
 show⟨_,qb,⟨c++[z],?_,yX.mpr ⟨q,by simp,fun a g b hb e=>?_⟩,fun u hu=>?_⟩,fun s=>?_⟩
 .have:=jh kvs (Sum.inr z:Key) (.ref t);rw[yt];show _<=_+1;lk
 .rw [yv.mp hb] at e;rw[e] at g;show(f z g).2 hz
 .rcases yx.mp hu with hu | hu
  .show⟨(f u hu).1,?_⟩;rw[q8 (fun e=>(f u hu).2 (by rw[e];show hz))];show(f u hu).2
  .rw [yv.mp hu,qY];show⟨o,fun e=>by cases e⟩
 .rw [zC];by_cases e:s=z
  .subst e;rw[yG rfl,qY];show⟨t,rfl,j,h _ _ p⟩
  .rw [yE (fun y=>e (xj y)),q8 e];show(hv s).keep fun t' xs n e=>⟨n,h t' xs e⟩
def BxD(d:Addr)(H H':Hp):Prop:=∀ b o,b≠d->H b=some o->H' b=some o
theorem numK_no{t:Addr}{k:Nat}(h:jR (qbd ss k) (.inr s:Key)=some (.ref t)):False:=by
 by_cases a:s∈ss
 .obtain⟨j,_,_,e⟩:=jZ (i:=k) a;rw[h] at e;cases e
 .rw [qaE a] at h;cases h
theorem Wt.bx{t:Addr}(W:Wt cw H x ss ns tps)(f:H d=some (.dK kvs))(hv:jR kvs (.inr s:Key)=some (.ref t))(b:BxD d H J):Wt cw J x ss ns tps:=by
 show⟨?_,W.adj,W.ok⟩;obtain⟨i,g,ol,h,hb,a,e,c,hw⟩:=W.web;show⟨i,g,ol,h,b _ _ (zB hb f (by intro z;cases z)) hb,b _ _ (fun z=>?_) a,b _ _ (zB e f (by intro z;cases z)) e,b _ _ (zB c f (by intro z;cases z)) c,hw⟩;rw[z,f] at a;rw[HO.dK.inj (ym a)] at hv;show numK_no hv
inductive spOfs(vs:List V)(H:Hp)(Q:VK)(E:XK):Prop|mk (a:Addr) (r:LS) (_:vs=[.ref a]) (_:H a=some (.lst (r.map V.str))) (_:Q (.bl (decide (sdW r=0))) H)
inductive spSf(cw:Addr)(vs:List V)(H:Hp)(Q:VK)(E:XK):Prop|mk (x d:Addr) (ss:LS) (ns:LN) (tps:LP) (s:Str) (m:Str->Option (LS)) (_:vs=[.ref x,.str s,.ref d]) (_:Wt cw H x ss ns tps) (_:WyH (fun _=>False) H d ss m) (_:WyI (tA tps) m) (_:(∀ z r,m z=some r->z∈ss)) (_:s∈ss) (_:m s=some [s]) (_:(∀ a b,tA tps a b->a≠s->m a≠none->m b≠none)) (_:∀ H' m1,BxD d H H'->WyH (fun _=>False) H' d ss m1->StW (tA tps) s m m1->(∀ a b,tA tps a b->m1 a≠none->m1 b≠none)->Q .non H')
theorem ok_ofs(F:Fun K "on_first_side" "on_first_side" jP f fd)(T:Txt K mg cc cw):FnOk P w K mg base CX0 1 f fd ["way"] spOfs:=by
 show F.ok ur fun _ _ _ _ H vs Q E c h=>?_
 .obtain⟨a,r,rfl,b,q⟩:=h;have d:=ze c;show⟨_,(qe (qo (jq (zG (K:=K) rfl d) (qE zw (qr (zj (K:=K) rfl) rfl T.b_len YS (qa (pv 0) qd)) qg) qg (qw _)))),?_⟩;apply qan b ?_;rw[ya];apply⟨_,_,rfl,rfl,by show(0:Int)<2;decide,?_⟩;apply .inl (.inl (.inl ⟨rfl,rfl,?_⟩))
  have e:(if false=true then !eqV (V.int ((r.length:Int) % 2)) (V.int 1) else eqV (V.int ((r.length:Int) % 2)) (V.int 1))=decide (sdW r=0):=by
   rw[yE (by decide)];unfold eqV sdW;rw[YQ,Yq];simp only[Ye];lk
  rw[e];show q
theorem ok_sf(F:Fun K "spread_from" "spread_from" zc f fd)(T:Txt K mg cc cw)(Ks:MethOk P w K mg base CX0 6 cw "beside" ["self","place"] (spBs cw)):FnOk P w K mg base CX0 7 f fd ["web","start","ways"] (spSf cw):=by
 show F.ok KB fun _ _ _ s H vs Q E hr h=>?_
 .obtain⟨x,d,ss,ns,tps,st,m,rfl,W,hY,av,ay,bb,aq,aw,q⟩:=h;have hu:=ze hr;show⟨_,(qc (qm (i:=3) KB.nd rfl (yP rfl) (jg (qa (pv 1) qd)))
 (qe (qaV yZ (qj qdd (qr (zj (K:=K) rfl) rfl T.b_len YS (qa (pv 3) qd)) qg (qw _))
 (qc (qm (i:=4) KB.nd rfl (yP rfl) (qby (K:=K) rfl yV PySem.F.slot_list_pop PySem.F.type_list_pop qcj (pv 3) (qa qg qd)))
 (qe (jo yZ rfl (qL (K:=K) rfl (qF Ks (hmR hr) (pv 0) (qa (pv 4) qd))) (qk (i:=5) KB.nd rfl (yP rfl))
 (qe (qM (qj (jC (K:=K) rfl hu) (pv 5) (pv 2) (by with_unfolding_all rfl)) (qc (jw (qE (j6 (K:=K) rfl) (qt (qu (K:=K) rfl hu) (pv 2) (pv 4) (fun _ _=>rfl)) (jg (qa (pv 5) qd))) (jI (pv 2) (pv 5) (jJ hu)))
 (qe (qQ (qby (K:=K) rfl yV Yi Yj je (pv 3) (qa (pv 5) qd))))) qq)))))))),?_⟩
  apply⟨by show 1<=sizeLine;decide,fun p aa=>?_⟩;have s1:=qC (Sr H) (o:=.lst [.str st]) aa;have ew:upd H p (.lst [.str st]) p=some (.lst ([st].map V.str)):=qb;generalize upd H p (.lst [.str st])=H1 at s1 ew;have bn:=W.wok.nd;have few:=W.wok.few;ext;obtain⟨Wp,af⟩:∃ Wp:Nat->L2.St->Hp->Prop,Wp=fun n σ J=>∃(m1:Str->Option (LS)) (dn g:LS) (y4 y5:Option V),n=15-dn.length/\σ=[some (.ref x),some (.str st),some (.ref d),some (.ref p),y4,y5]/\BxD d H J/\J p=some (.lst (g.map V.str))/\WyH (fun t=>t=p) J d ss m1/\StW (tA tps) st m m1/\(dn++g).Nodup/\(∀ y∈dn++g,y∈ss/\∃ q,m1 y=some q/\q[0]?=some st)/\∀ a b,tA tps a b->a∉g->m1 a≠none->m1 b≠none:=⟨_,rfl⟩;show⟨Wp,⟨15,by rw[af];show⟨m,[],[st],none,none,rfl,rfl,fun b o _ e=>s1 _ _ e,ew,(hY.fresh aa).same s1,.refl,by simp,fun y hy=>by rw[yv.mp hy];show⟨bb,_,aq,rfl⟩,fun a b h1 B=>aw a b h1 (fun e=>B (by rw[e];simp))⟩⟩,fun n σ J hW=>?_⟩;rw[af] at hW;obtain⟨m1,dn,g,y4,y5,hn,rfl,bJ,S,ag,hS,hD,ah,am⟩:=hW;apply qan S ?_;rw[ya];ext
  cases g with
  | nil =>
   show qJ (fun h=>by simp at h) fun _=>?_;show q J m1 bJ ag.weak hS fun a b h1 B=>am a b h1 (by simp) B
  | cons pl g =>
   show qJ (fun _=>⟨fun bf H'=>∃ n',n'<n/\Wp n' bf H',fun _ _ z=>z,?_⟩) fun h=>absurd (yD (by simp)) h
   have bj:dn.length+1<=14:=by
    have:=jk (l:=dn++pl::g) (m:=ss) hD fun y hy=>(ah y hy).1;rw[yt,yy] at this;lk
   apply⟨.inl ⟨rfl,_,.of S⟩,?_⟩;apply⟨p,_,0,0,.str pl,rfl,rfl,S,by decide,by decide,by rw[ya];show qdS (by simp),rfl,?_⟩;obtain⟨ba,R,az,ai⟩:=ah pl (by simp)
   have ak:p≠d:=fun z=>by
    obtain⟨kvs,e,_⟩:=ag;rw[<- z,S] at e;cases e
   have xw:∀{b o},b≠p->J b=some o->upd J p (.lst (g.map V.str)) b=some o:=fun h e=>by rw[qf h];show e
   have b2:BxD d H (upd J p (.lst (g.map V.str))):=fun b o n e=>xw (fun z=>by rw[z,aa] at e;cases e) (bJ b o n e);have e2:upd J p (.lst (g.map V.str)) p=some (.lst (g.map V.str)):=qb;have Y2:=ag.updW (o:=.lst (g.map V.str)) ak;show qfs _ _ _ _ (upd J p (.lst (g.map V.str)));generalize upd J p (.lst (g.map V.str))=J2 at b2 e2 Y2;ext
   have W2:Wt cw J2 x ss ns tps:=by
    obtain⟨bh,t0,ax,bc,_⟩:=hY.at aq;show W.bx ax bc b2
   obtain⟨wx,dd,ol,nn,hb,bi,bp,bo,hw⟩:=id W2.web;obtain⟨j,gj⟩:=yf ba;show⟨x,wx,_,rfl,hb,j5 (by room),?_⟩;apply⟨x,ss,ns,pl,j,rfl,W2.web,gj,fun J3 s3 lb O=>?_⟩;have s4:=qC s3 (o:=.lst ((inB ss 0 (ns.getD j 0)).map V.str)) O;have el:upd J3 lb (.lst ((inB ss 0 (ns.getD j 0)).map V.str)) lb=some (.lst ((inB ss 0 (ns.getD j 0)).map V.str)):=qb;generalize upd J3 lb (.lst ((inB ss 0 (ns.getD j 0)).map V.str))=J4 at s4 el;have N:=W2.bes j pl;generalize inB ss 0 (ns.getD j 0)=bs at el N;ext
   have as:lb≠d/\lb≠p:=by
    constructor
    .intro z;obtain⟨kvs,e,_⟩:=Y2;rw[z,s3 _ _ e] at O;cases O
    .intro z;rw[z,s3 _ _ e2] at O;cases O
   show .inl ⟨⟨_,.of el⟩,qN (xs:=bs.map V.str) (fun i σ G=>∃(A:Str->Option (LS)) (I:LS) (y5:Option V),σ=[some (.ref x),some (.str st),some (.ref d),some (.ref p),some (.str pl),y5]/\(∀ b o,b≠d->b≠p->J4 b=some o->G b=some o)/\G p=some (.lst ((g++I).map V.str))/\WyH (fun t=>t=p) G d ss A/\StW (tA tps) st m A/\A pl=some R/\(dn++[pl]++(g++I)).Nodup/\(∀ y∈dn++[pl]++(g++I),y∈ss/\∃ q,A y=some q/\q[0]?=some st)/\(∀ a b,tA tps a b->a∉g++I->a≠pl->A a≠none->A b≠none)/\∀ b∈bs.take i,A b≠none)
    ⟨m1,[],_,rfl,fun b o _ _ e=>e,by rw[Yb];show s4 _ _ e2,Y2.same s4,hS,az,by rw[Yb,yW];show hD,fun y hy=>ah y (by rw[Yb,yW] at hy;show hy),fun a b h1 B h3=>am a b h1 (fun z=>by rw[Yb] at B;rcases yz.mp z with z | z;show h3 z;show B z),fun b hb=>by simp at hb⟩
    (fun i σ G _ hp=>?_) (fun i y σ G hy hp=>?_) fun σ G hp=>?_⟩
   .obtain⟨A,I,y5,_,B2,_⟩:=hp;show .of (B2 _ _ as.1 as.2 el)
   .obtain⟨A,I,y5,rfl,B2,L,U,C,D,M,v,X,Z⟩:=hp;rw[yd] at hy;obtain⟨c,ho,rfl⟩:=yn.mp hy;have ar:tA tps pl c:=(N c gj).mp (ye ho);have an:c∈ss:=ar.elim (fun k=>(W.ok _ k).2.1) fun k=>(W.ok _ k).1;have ac:bs.take (i+1)=bs.take i++[c]:=by rw[yH,ho];rfl
    obtain⟨kvs,Y,ao,aj⟩:=id U;apply .inr (.inl ⟨d,_,rfl,DGet.k (k:=Sum.inr c) Y,?_⟩);rw[yG rfl,WyH.isSome aj];ext
    cases hm:A c with
    | some r =>
     show yq ?_;show⟨A,I,_,rfl,B2,L,U,C,D,M,v,X,fun b hb=>?_⟩;rw[ac] at hb;rcases yx.mp hb with hb | hb
     .show Z b hb
     .rw [yv.mp hb,hm];show fun e=>by cases e
    | none =>
     show zA ?_;ext;have ap:=aj pl;rw[D] at ap;obtain⟨t,bd,_,au⟩:=ap;show .inr ⟨d,.ref t,rfl,by have:=DGet.k (k:=Sum.inr pl) Y;rw[bd] at this;show this,?_⟩;apply⟨by show 1<=sizeLine;decide,fun a1 h1=>?_⟩;have t1:=qC (Sr G) (o:=.lst [.str c]) h1;have e1:upd G a1 (.lst [.str c]) a1=some (.lst [.str c]):=qb;generalize upd G a1 (.lst [.str c])=G1 at t1 e1
     have bg:R.length<=14:=by
      have:=(C.wy av).few (C.inn (fun a b h=>h.elim (fun k=>(W.ok _ k).2.1) fun k=>(W.ok _ k).1) ay) D;lk
     show .inl ⟨t,a1,_,_,rfl,rfl,t1 _ _ au,e1,by rw[ya];show R.length+1<=sizeLine;show yT (qi (by lk)),fun a2 B=>?_⟩;have be:a2≠p:=fun z=>by rw[z,t1 _ _ L] at B;cases B
     have t2:=qC t1 (o:=.lst (R.map V.str++[.str c])) B;have e3:upd G1 a2 (.lst (R.map V.str++[.str c])) a2=some (.lst ((R++[c]).map V.str)):=by rw[qb,yC];rfl
     generalize upd G1 a2 (.lst (R.map V.str++[.str c]))=G2 at t2 e3;ext
     have bm:kvs.length<=14:=by
      obtain⟨po,p1,p2,p3⟩:=ao;have:=jk (l:=po) (m:=ss) p2 fun u hu=>(p3 u hu).1;lk
     show .inr ⟨d,_,rfl,DPut.k (k:=Sum.inr c) (t2 _ _ Y) (by rw[YA];lk),?_⟩;have Y3:=WyH.put (t2 _ _ Y) ao (fun s=>(aj s).keep fun t xs n e=>⟨n,t2 _ _ e⟩) hm an be e3;have ae:upd G2 d (.dK (jW kvs (Sum.inr c) (.ref a2))) p=some (.lst ((g++I).map V.str)):=by rw[qf ak];show t2 _ _ L
     have B3:∀ b o,b≠d->b≠p->J4 b=some o->upd G2 d (.dK (jW kvs (Sum.inr c) (.ref a2))) b=some o:=fun b o n1 n2 e=>by rw[qf n1];show t2 _ _ (B2 b o n1 n2 e)
     generalize upd G2 d (.dK (jW kvs (Sum.inr c) (.ref a2)))=G3 at Y3 ae B3;apply⟨.inl ⟨rfl,_,SqL.of ae⟩,?_⟩;ext
     have bq:(g++I).length<=14:=by
      have:=jk (l:=g++I) (m:=ss) (yX.mp M).2.1 fun y hy=>(v y (yx.mpr (.inr hy))).1;lk
     show⟨p,_,_,rfl,rfl,ae,by rw[ya];show qi (by lk),?_⟩;have al:∀{y q},A y=some q->qbT A c (R++[c]) y=some q:=fun{y q} e=>by rw[q8 (fun z=>by rw[z,hm] at e;cases e)];show e
     have ad:∀{y},A y≠none->qbT A c (R++[c]) y≠none:=fun{y} e=>by
      cases e2:A y with
      | none=>show absurd e2 e
      | some q=>rw[al e2];show fun z=>by cases z
     show⟨qbT A c (R++[c]),I++[c],_,rfl,fun b o n1 n2 e=>by rw[qf n2];show B3 b o n1 n2 e,by rw[qb,<- yW,yC (l₂:=[c])];rfl,Y3.updW ak,C.step D ai ar hm,al D,?_,fun y hy=>?_,fun a b h1 B h3 h4=>?_,fun b hb=>?_⟩
     .rw [<- yW g,<- yW (dn++[pl])];show yX.mpr ⟨M,by simp,fun a ha b hb e=>?_⟩;rw[yv.mp hb] at e;rw[e] at ha;obtain⟨_,q,hq,_⟩:=v c ha;rw[hm] at hq;cases hq
     .rw [<- yW g,<- yW (dn++[pl])] at hy;rcases yx.mp hy with hy | hy
      .obtain⟨k1,q,k2,k3⟩:=v y hy;show⟨k1,q,al k2,k3⟩
      .rw [yv.mp hy];show⟨an,_,qY,by rw[yF (yc.mp ai).1];show ai⟩
     .have ha:a≠c:=fun z=>B (by rw[z];simp);rw[q8 ha] at h4;show ad (X a b h1 (fun z=>B (by rw[<- yW];show yx.mpr (.inl z))) h3 h4)
     .rw [ac] at hb;rcases yx.mp hb with hb | hb
      .show ad (Z b hb)
      .rw [yv.mp hb,qY];show fun e=>by cases e
   .obtain⟨A,I,y5,rfl,B2,L,U,C,D,M,v,X,Z⟩:=hp;show⟨15-(dn++[pl]).length,by rw[hn,yt];show _-(_+1)<_;lk,?_⟩;rw[af];show⟨A,dn++[pl],g++I,_,_,rfl,rfl,fun b o n e=>B2 b o n (fun z=>by rw[z,aa] at e;cases e) (s4 _ _ (b2 b o n e)),L,U,C,M,v,fun a b h1 B h3=>?_⟩;by_cases ha:a=pl
    .subst ha;show Z b ?_;rw[ya,yO];show(N b gj).mpr h1
    .show X a b h1 B ha h3
theorem K5:FnScope ["web","ways","place"] ["web"] (qh qaJ):=fS
theorem Rc.key(c:∀ a b,A a b->m a≠none->m b≠none)(h:Rc A a b)(d:m a≠none):m b≠none:=by
 induction h with
 | refl=>show d
 | on _ t ih=>show c _ _ t ih
structure WyC(A:Str->Str->Prop)(ss:LS)(m:Str->Option (LS)):Prop where
 wy:WyI A m
 inn:∀ z r,m z=some r->z∈ss
 cl:∀ a b,A a b->m a≠none->m b≠none
 drv:Drv A (Fst A ss) fun z=>(m z).map sdW
 rt:∀ a b r q,A a b->m a=some r->m b=some q->r[0]?=q[0]?
theorem WyC.nil:WyC A ss fun _=>none:=
 ⟨⟨(fun z r e=>by cases e),(fun z r e=>by cases e),(fun z r e=>by cases e),fun z r e=>by cases e⟩,(fun z r e=>by cases e),(fun a b _ h=>absurd rfl h),.nil,fun a b r q _ e=>by cases e⟩
theorem WyC.first(h:WyC A ss m){p:Str}(b:ss[i]?=some p)(d:m p=none)(all:∀ z∈ss.take i,m z≠none):Fst A ss p:=
 ⟨i,b,fun j y c a k=>absurd d (k.key h.cl (all y (ye (i:=j) (by rw[xJ,yG c];show a))))⟩
theorem WyC.on(h:WyC A ss m){p:Str}(as:∀ a b,A a b->A b a)(inn:∀ a b,A a b->b∈ss)(j:m p=none)(u:p∈ss)(s:Fst A ss p)(S:StW A p (qbT m p [p]) m1)(n:∀ a b,A a b->m1 a≠none->m1 b≠none):WyC A ss m1:=by
 have v:∀ z r,qbT m p [p] z=some r->z∈ss:=fun z r e=>by
  by_cases hz:z=p
  .rw [hz];show u
  .rw [q8 hz] at e;show h.inn z r e
 have o:Drv A (Fst A ss) fun z=>(qbT m p [p] z).map sdW:=by
  have k:=h.drv.start s (by rw[j];rfl)
  have e:(fun z=>(qbT m p [p] z).map sdW)=qbi (fun z=>(m z).map sdW) p 0:=by
   funext x;by_cases l:x=p
   .subst l;rw[qY,jf];simp[sdW]
   .rw [q8 l,jV l]
  rw[e];show k
 have g:∀{z r},m z=some r->m1 z=some r:=fun{z r} e=>S.ext z r (by rw[q8 (fun k=>by rw[k,j] at e;cases e)];show e)
 have new:∀{z r},m z=none->m1 z=some r->r[0]?=some p:=fun{z r} e d=>by
  rcases S.root z r d with k | k
  .by_cases hz:z=p
   .subst hz;rw[qY] at k;cases k;rfl
   .rw [q8 hz,e] at k;cases k
  .show k
 show⟨S.wy (h.wy.start j),S.inn inn v,n,S.drv o,fun a b r q t d i=>?_⟩
 cases f:m a with
 | some r' =>
  cases c:m b with
  | none=>show absurd c (h.cl a b t (by rw[f];show fun k=>by cases k))
  | some q' =>
   rw[g f] at d;cases d;rw[g c] at i;cases i;show h.rt a b r q t f c
 | none =>
  cases c:m b with
  | some q'=>show absurd f (h.cl b a (as _ _ t) (by rw[c];show fun k=>by cases k))
  | none=>rw[new f d,new c i]
inductive spWi(cw:Addr)(vs:List V)(H:Hp)(Q:VK)(E:XK):Prop|mk (x:Addr) (ss:LS) (ns:LN) (tps:LP) (_:vs=[.ref x]) (_:Wt cw H x ss ns tps) (_:∀(d:Addr) (m:Str->Option (LS)) (H':Hp),L2.Same H H'->WyH (fun _=>False) H' d ss m->WyC (tA tps) ss m->(∀ s∈ss,m s≠none)->Q (.ref d) H')
theorem ok_wi(F:Fun K "ways_in" "ways_in" qaJ f fd)(T:Txt K mg cc cw)(Kh:MethOk P w K mg base CX0 1 cw "places" ["self"] (spPls cw))(uM:DefOk P w K mg base CX0 7 "spread_from" ["web","start","ways"] (spSf cw)):FnOk P w K mg base CX0 8 f fd ["web"] (spWi cw):=by
 show F.ok K5 fun _ _ _ s H vs Q E hr h=>?_
 .obtain⟨x,ss,ns,tps,rfl,W,q⟩:=h;have D:=ze hr;have ag:=W.wok.nd;have few:=W.wok.few;have ac:∀ a b,tA tps a b->tA tps b a:=fun a b k=>k.symm;have ad:∀ a b,tA tps a b->b∈ss:=fun a b k=>k.elim (fun y=>(W.ok _ y).2.1) fun y=>(W.ok _ y).1;show⟨_,(qc (qm (i:=1) K5.nd rfl (yP rfl) jX)
 (qc (jo yZ rfl (qL (K:=K) rfl (qS Kh (hmR hr) (pv 0))) (qk (i:=2) K5.nd rfl (yP rfl))
 (qe (qM (qj (jC (K:=K) rfl D) (pv 2) (pv 1) (by with_unfolding_all rfl)) (qc (jw (jg (qa (pv 2) qd)) (jI (pv 1) (pv 2) (jJ D)))
 (qe (qQ (qp uM (hmR hr) qz (qa (pv 0) (qa (pv 2) (qa (pv 1) qd))))))) qq)))
 (qe (qo (pv 1))))),?_⟩
  ext;intro d hd;have U:=qC (Sr H) (o:=.dK []) hd;have ed:upd H d (.dK []) d=some (.dK []):=qb;generalize upd H d (.dK [])=H1 at U ed;ext;obtain⟨wx,dd,ol,nn,hb,ae,ai,ah,hw⟩:=id (W.same U).web;show⟨x,wx,_,rfl,hb,j5 (by room),?_⟩;apply⟨x,ss,ns,rfl,(W.same U).web,fun S g=>?_⟩;have s2:=qC U (o:=.lst (ss.map V.str)) g;have I:=qC (Sr H1) (o:=.lst (ss.map V.str)) g _ _ ed;have el:upd H1 S (.lst (ss.map V.str)) S=some (.lst (ss.map V.str)):=qb;have aa:S≠d:=fun z=>by rw[z,ed] at g;cases g
  generalize upd H1 S (.lst (ss.map V.str))=H2 at s2 I el;apply .inl ⟨⟨_,.of el⟩,qN (xs:=ss.map V.str) (fun i Y J=>∃(m:Str->Option (LS)) (X:Option V),Y=[some (.ref x),some (.ref d),X]/\BxD d H2 J/\WyH (fun _=>False) J d ss m/\WyC (tA tps) ss m/\∀ z∈ss.take i,m z≠none)
   ⟨fun _=>none,_,rfl,fun b o _ e=>e,⟨[],I,⟨[],yh _,kx,fun u D=>by cases D⟩,fun s=>rfl⟩,.nil,fun z hz=>by simp at hz⟩ (fun i Y J _ L=>?_) (fun i y Y J hy L=>?_) fun Y J L=>?_⟩
  .obtain⟨m,X,_,C,_⟩:=L;show .of (C _ _ aa el)
  .obtain⟨m,X,rfl,C,R,p,c⟩:=L;rw[yd] at hy;obtain⟨pl,ho,rfl⟩:=yn.mp hy;have j:=ye ho;have v:ss.take (i+1)=ss.take i++[pl]:=by rw[yH,ho];rfl
   obtain⟨kvs,A,M,N⟩:=id R;apply .inr (.inl ⟨d,_,rfl,DGet.k (k:=Sum.inr pl) A,?_⟩);rw[yG rfl,WyH.isSome N];ext
   cases B:m pl with
   | some r =>
    show yq ?_;show⟨m,_,rfl,C,R,p,fun b hb=>?_⟩;rw[v] at hb;rcases yx.mp hb with hb | hb
    .show c b hb
    .rw [yv.mp hb,B];show fun e=>by cases e
   | none =>
    show zA ?_;apply⟨by show 1<=sizeLine;decide,fun G h1=>?_⟩;have O:=qC (Sr J) (o:=.lst [.str pl]) h1;have e1:upd J G (.lst [.str pl]) G=some (.lst ([pl].map V.str)):=qb;generalize upd J G (.lst [.str pl])=J1 at O e1;ext
    have af:kvs.length<=14:=by
     obtain⟨po,p1,p2,p3⟩:=M;have:=jk (l:=po) (m:=ss) p2 fun u D=>(p3 u D).1;lk
    show .inr ⟨d,_,rfl,DPut.k (k:=Sum.inr pl) (O _ _ A) (by rw[YA];lk),?_⟩;have Y3:=WyH.put (O _ _ A) M (fun s=>(N s).keep fun t xs n e=>⟨n,O _ _ e⟩) B j id e1;have Z:BxD d H2 (upd J1 d (.dK (jW kvs (Sum.inr pl) (.ref G)))):=fun b o n e=>by rw[qf n];show O _ _ (C b o n e)
    generalize upd J1 d (.dK (jW kvs (Sum.inr pl) (.ref G)))=J2 at Y3 Z;have b0:L2.Same H J2:=fun b o e=>Z b o (fun z=>by rw[z,hd] at e;cases e) (s2 _ _ e);ext;have hF:=p.first ho B c;show⟨x,d,ss,ns,tps,pl,qbT m pl [pl],rfl,W.same b0,Y3,p.wy.start B,fun z r e=>?_,j,qY,fun a b t na h=>?_,fun J3 m1 b4 Y4 S4 c4=>?_⟩
    .by_cases hz:z=pl
     .rw [hz];show j
     .rw [q8 hz] at e;show p.inn z r e
    .rw [q8 na] at h;have:=p.cl a b t h;rw[q8 (fun z=>this (by rw[z];show B))];show this
    .show⟨m1,_,rfl,fun b o n e=>b4 b o n (Z b o n e),Y4,p.on ac ad B j hF S4 c4,fun b hb=>?_⟩
     have keep:∀{z},qbT m pl [pl] z≠none->m1 z≠none:=fun{z} h=>by
      cases e:qbT m pl [pl] z with
      | none=>show absurd e h
      | some r=>rw[S4.ext z r e];show fun k=>by cases k
     rw[v] at hb;rcases yx.mp hb with hb | hb
     .show keep ?_;have:=c b hb;rw[q8 (fun z=>this (by rw[z];show B))];show this
     .rw [yv.mp hb];show keep (by rw[qY];show fun k=>by cases k)
  .obtain⟨m,X,rfl,C,R,p,c⟩:=L;rw[ya,yO] at c;apply q d m J (fun b o e=>C b o (fun z=>by rw[z,hd] at e;cases e) (s2 _ _ e)) R p c
theorem uB:FnScope ["one","other","both"] ["one","other"] (qh zS):=fS
noncomputable def shN(r q:LS):Nat:=(r.filter fun x=>decide (x∈q)).length
noncomputable def qcs(r q:LS):LS:=r.drop (shN r q-1)++(q.drop (shN r q)).reverse
inductive spRo(vs:List V)(H:Hp)(Q:VK)(E:XK):Prop|mk (a b:Addr) (r q:LS) (_:vs=[.ref a,.ref b]) (_:H a=some (.lst (r.map V.str))) (_:H b=some (.lst (q.map V.str))) (_:r.length<=14) (_:q.length<=14) (_:1<=shN r q) (_:∀(l:Addr) (H':Hp),L2.Same H H'->H l=none->H' l=some (.lst ((qcs r q).map V.str))->Q (.ref l) H')
theorem ok_ro(F:Fun K "ring_of" "ring_of" zS f fd)(T:Txt K mg cc cw):FnOk P w K mg base CX0 1 f fd ["one","other"] spRo:=by
 show F.ok uB fun _ _ _ _ H vs Q E X h=>?_
 .obtain⟨a,b,r,q,rfl,u,hb,N,M,h1,k⟩:=h;have Y:=ze X;show⟨_,(qc (qm (i:=2) uB.nd rfl (yP rfl) (qr (zj (K:=K) rfl) rfl T.b_len YS (qa (jG (sc:=qh zS) (XN:=["one","other","both"]) ["place","other"] 1 [1] rfl rfl rfl (by room) rfl (by room)
  (qL (K:=K) rfl (pv 0)) (fun _ _ _ _=>(qk (i:=0) (show(["place","other"]:LS).Nodup by room) rfl (yP rfl))) qW
  (fun _ _ _ _=>(ji (qj (zt (K:=K) rfl Y) (pv 0) (pv 1) (by with_unfolding_all rfl))))
  (fun _ _ _ _=>(pv 0))) qd)))
 (qe (qo (qE (j6 (K:=K) rfl) (jt (qdj (K:=K) rfl) (pv 0) (jr (qE qbq (pv 2) qg)) j4) (qdG (K:=K) rfl (jt (qdj (K:=K) rfl) (pv 1) (jr (pv 2)) j4) (jr (qbF qas qg))))))),?_⟩
  apply .inl ⟨⟨_,SqL.of u⟩,qK (K:=K) (a:=a) (xs:=r.map V.str) (fun i ys H'=>H'=H/\ys=((r.take i).filter fun x=>decide (x∈q)).map V.str) ⟨rfl,rfl⟩ (fun i ys H' _ h=>by rw[h.1];show SqL.of u) (fun i x ys H' O y=>?_) fun ys H' y=>?_⟩
  .obtain⟨rfl,rfl⟩:=y;rw[yd] at O;obtain⟨z,hz,rfl⟩:=yn.mp O;have m:r.take (i+1)=r.take i++[z]:=by rw[yH,hz];rfl
   have W:=(yc.mp hz).1;apply .inl ⟨b,_,rfl,.inl (SqL.of hb),rfl,qcp q,?_⟩;rw[qbN,yE (by decide)];apply qJ (fun hc=>?_) fun hc=>?_
   .ext;show⟨?_,rfl,?_⟩
    .rw [ya];show qi (yi (yQ _ _) (by rw[yK];lk))
    .rw [m,Yc,yC];simp only[yL,Yw,hc,Xp];rfl
   .show⟨rfl,?_⟩;rw[m,Yc,yC];simp[hc]
  .obtain⟨rfl,rfl⟩:=y;rw[show(r.map V.str).length=r.length from ya ..,yO];show⟨by rw[ya];show yT (qi (yi (yQ _ _) (by lk))),fun c hc=>?_⟩;have B:=qC (Sr H') (o:=.lst ((r.filter fun x=>decide (x∈q)).map V.str)) hc;have G:upd H' c (.lst ((r.filter fun x=>decide (x∈q)).map V.str)) c=some (.lst ((r.filter fun x=>decide (x∈q)).map V.str)):=qb;generalize upd H' c (.lst ((r.filter fun x=>decide (x∈q)).map V.str))=H1 at B G;apply qan G ?_;rw[ya];ext;have A:(r.filter fun x=>decide (x∈q)).length=shN r q:=rfl;rw[A];show .inl ⟨a,_,rfl,SqL.of (B _ _ u),fun n v=>?_⟩;have U:((shN r q:Int)-1)=((shN r q-1:Nat):Int):=by lk
   rw[U,qaC,<- k9];have C:=qC B (o:=.lst ((r.drop (shN r q-1)).map V.str)) v;have I:upd H1 n (.lst ((r.drop (shN r q-1)).map V.str)) n=some (.lst ((r.drop (shN r q-1)).map V.str)):=qb;generalize upd H1 n (.lst ((r.drop (shN r q-1)).map V.str))=H2 at C I;apply qfL ?_;apply .inl ⟨b,_,rfl,SqL.of (C _ _ hb),fun p g=>?_⟩;rw[qaC,<- k9];have R:=qC C (o:=.lst ((q.drop (shN r q)).map V.str)) g;have d:=qC (Sr H2) (o:=.lst ((q.drop (shN r q)).map V.str)) g _ _ I;have J:upd H2 p (.lst ((q.drop (shN r q)).map V.str)) p=some (.lst ((q.drop (shN r q)).map V.str)):=qb;generalize upd H2 p (.lst ((q.drop (shN r q)).map V.str))=t at R d J;apply vU ?_;apply⟨rfl,p,_,rfl,SqL.of J,fun s j=>?_⟩;rw[<- kQ];have D:=qC R (o:=.lst (((q.drop (shN r q)).reverse).map V.str)) j;have e:=qC (Sr t) (o:=.lst (((q.drop (shN r q)).reverse).map V.str)) j _ _ d;have L:upd t s (.lst (((q.drop (shN r q)).reverse).map V.str)) s=some (.lst (((q.drop (shN r q)).reverse).map V.str)):=qb;generalize upd t s (.lst (((q.drop (shN r q)).reverse).map V.str))=Z at D e L;show .inl ⟨n,s,_,_,rfl,rfl,e,L,?_,fun S l=>?_⟩
   .rw [ya,ya,Yl,Yp,Yp];show yT (qi (by lk))
   .show k S _ (qC D l) (D.free l) ?_;rw[qb,<- yC];rfl
def Tie(A:Str->Str->Prop)(l:LS):Prop:=∀(i:Nat) x y,l[i]?=some x->l[i+1]?=some y->A x y
theorem Tie.drop(h:Tie A l)(k:Nat):Tie A (l.drop k):=fun i x y a b=>by
 rw[xp] at a b;show h (k+i) x y a (by rw[show k+i+1=k+(i+1) by lk];show b)
theorem Tie.rev(as:∀ a b,A a b->A b a)(h:Tie A l):Tie A l.reverse:=fun i x y c d=>by
 have h1:=(yc.mp c).1;have e:=(yc.mp d).1;rw[Yl] at h1 e;rw[xM h1] at c;rw[xM e] at d;show as _ _ (h (l.length-1-(i+1)) y x d (by rw[show l.length-1-(i+1)+1=l.length-1-i by lk];show c))
theorem Tie.app{m:LS}(h:Tie A l)(k:Tie A m)(j:∀ x y,l.getLast?=some x->m[0]?=some y->A x y):Tie A (l++m):=fun i x y a b=>by
 by_cases h1:i+1<l.length
 .rw [yF (by lk)] at a;rw[yF h1] at b;show h i x y a b
 .rw [yB (by lk)] at b;by_cases c:i<l.length
  .rw [yF c] at a;show j x y ?_ (by rw[<- show i+1-l.length=0 by lk];show b);rw[YU,show l.length-1=i by lk];show a
  .rw [yB (by lk)] at a;show k (i-l.length) x y a (by rw[<- show i+1-l.length=i-l.length+1 by lk];show b)
theorem filter_first{p:Str->Bool}(b:∀(i j:Nat) x y,i<j->l[i]?=some x->l[j]?=some y->p y=true->p x=true):∀(i:Nat) x,l[i]?=some x->(p x=true↔i<(l.filter p).length):=by
 induction l with
 | nil=>intro i x h;simp at h
 | cons a r f =>
  have d':∀(i j:Nat) x y,i<j->r[i]?=some x->r[j]?=some y->p y=true->p x=true:=fun i j x y g n d=>b (i+1) (j+1) x y (by lk) (by simpa using n) (by simpa using d);have f:=f d';intro i x h;by_cases c:p a=true
  .rw [yL,yG c,yy]
   cases i with
   | zero=>simp at h;subst h;show⟨fun _=>by lk,fun _=>c⟩
   | succ i=>rw[f i x (by simpa using h)];lk
  .have no:∀(j:Nat) y,r[j]?=some y->p y≠true:=fun j y d k=>c (b 0 (j+1) a y (by lk) rfl (by simpa using d) k)
   have e:r.filter p=[]:=List.filter_eq_nil_iff.mpr fun y d=>by
    obtain⟨j,m⟩:=yf d;show no j y m
   rw[yL,yE c,e];show⟨fun k=>?_,fun k=>by simp at k⟩
   cases i with
   | zero=>simp at h;subst h;show absurd k c
   | succ i=>show absurd k (no i x (by simpa using h))
structure OddR(A:Str->Str->Prop)(ss l:LS):Prop where
 odd:l.length % 2=1
 three:3<=l.length
 nd:l.Nodup
 inn:∀ x∈l,x∈ss
 tie:Tie A l
 close:∀ x y,l[0]?=some x->l.getLast?=some y->A x y
section
variable{A:Str->Str->Prop}{ss:LS}{m:Str->Option (LS)}{a b:Str}{r q:LS}
theorem WyC.sh(h:WyC A ss m)(f:m a=some r)(g:m b=some q):∀(i:Nat) x,r[i]?=some x->(x∈q↔i<shN r q):=by
 have:=filter_first (p:=fun x=>decide (x∈q)) (l:=r) fun i j x y n c o k=>by
  have k:=yk k;obtain⟨_,e⟩:=h.wy.share f g o k;show yD (ye (i:=i) ?_);have d:=congrArg (fun l=>l[i]?) e;rw[xJ,xJ,yG (by lk),yG (by lk),c] at d;show d.symm
 intro i x c;have k:=this i x c;rw[Yq] at k;show k
theorem WyC.ring(h:WyC A ss m)(as:∀ a b,A a b->A b a)(ir:∀ a,¬ A a a)(o:A a b)(f:m a=some r)(d:m b=some q)(F:sdW r=sdW q):1<=shN r q/\OddR A ss (qcs r q):=by
 have l:=h.sh f d;have N:=h.wy.ne f;have M:=h.wy.ne d;have H:=xi.mpr N;have P:=xi.mpr M;have s:=h.wy.last a r f;have t:=h.wy.last b q d;rw[YU] at s t
 have h1:1<=shN r q:=by
  have C:=h.rt a b r q o f d;rw[yb H] at C;have:=(l 0 _ (yb H)).mp (ye C.symm);lk
 have J:shN r q<=r.length:=yQ _ _
 have same:∀ i,i<shN r q->r[i]?=q[i]?:=fun i n=>by
  have g:=yb (show i<r.length by lk);rw[g];show((h.wy.share f d g ((l i _ g).mpr n)).1).symm
 have E:shN r q<=q.length:=by
  have:=same (shN r q-1) (by lk);rw[yb (show shN r q-1<r.length by lk)] at this;have:=(yc.mp this.symm).1;lk
 have p:∀(i:Nat) x,shN r q<=i->q[i]?=some x->x∉r:=fun i x n hx K=>by
  have g:=(h.wy.share d f hx K).1;have:=(l i x g).mp (ye hx);lk
 have v:a≠b:=fun z=>ir a (by rw[<- z] at o;show o)
 have G:shN r q+shN r q+2<=r.length+q.length:=by
  have B:(r.length+1) % 2=(q.length+1) % 2:=F
  have:¬ (r.length=shN r q/\q.length=shN r q):=fun⟨I,O⟩=>by
   have:=same (shN r q-1) (by lk);rw[<- I,s,I,<- O,t] at this;show v (ym this)
  lk
 have D:(qcs r q).length=r.length+q.length+1-2*shN r q:=by
  unfold qcs;rw[yt,Yl,Yp,Yp];lk
 show⟨h1,⟨?_,by lk,?_,fun x hx=>?_,?_,?_⟩⟩
 .have B:(r.length+1) % 2=(q.length+1) % 2:=F;lk
 .unfold qcs;show yX.mpr ⟨(h.wy.nd a r f).sublist (List.drop_sublist _ _),((kC _).nodup_iff.mpr ((h.wy.nd b q d).sublist (List.drop_sublist _ _))),fun x hx y c e=>?_⟩;subst e;obtain⟨i,n⟩:=yf (XA.mp c);rw[xp] at n;show p _ x (by lk) n (Xw hx)
 .unfold qcs at hx;rcases yx.mp hx with hx | hx
  .obtain⟨k,w⟩:=h.wy.key f (Xw hx);show h.inn x k w
  .obtain⟨k,w⟩:=h.wy.key d (Xw (XA.mp hx));show h.inn x k w
 .unfold qcs;show Tie.app (Tie.drop (fun i x y=>h.wy.tie a r f i x y) _) (Tie.rev as (Tie.drop (fun i x y=>h.wy.tie b q d i x y) _)) fun x y hx c=>?_;rw[YU,xp,Yp,show shN r q-1+(r.length-(shN r q-1)-1)=r.length-1 by lk,s] at hx;have u:=(yc.mp c).1;rw[Yl] at u;rw[xM u,xp,Yp] at c;rw[Yp] at u;rw[show shN r q+(q.length-shN r q-1-0)=q.length-1 by lk,t] at c;cases hx;cases c;show o
 .intro x y hx c;unfold qcs at hx c;rw[yF (by rw[Yp];lk),xp,Nat.add_zero] at hx;have j:=hx;rw[same _ (by lk)] at j;by_cases L:q.length=shN r q
  .rw [XU (show q.length<=shN r q by lk)] at c;rw[List.reverse_nil,Yb,YU,xp,Yp,show shN r q-1+(r.length-(shN r q-1)-1)=r.length-1 by lk,s] at c;cases c;rw[<- L,t] at j;cases j;show as _ _ o
  .rw [X8,List.getLast?_reverse] at c
   have g:(q.drop (shN r q)).head?=some q[shN r q]:=by
    rw[List.head?_drop];show yb (by lk)
   rw[g] at c;cases c;show h.wy.tie b q d (shN r q-1) x _ j (by rw[show shN r q-1+1=shN r q by lk];show yb (by lk))
end
theorem Kx:FnScope ["web","ways","one","other","ones","others"] ["web"] (qh zg):=fS
noncomputable def sdP(m:Str->Option (LS))(s:Str):Nat:=((m s).map sdW).getD 0
inductive spSd(cc:Nat->Addr)(cw:Addr)(vs:List V)(H:Hp)(Q:VK)(E:XK):Prop|mk (x:Addr) (ss:LS) (ns:LN) (tps:LP) (_:vs=[.ref x]) (_:Wt cw H x ss ns tps) (_:(∀(m:Str->Option (LS)) (t l1 l2:Addr) (H':Hp),L2.Same H H'->WyC (tA tps) ss m->(∀ s∈ss,m s≠none)->(∀ a b,tA tps a b->sdP m a≠sdP m b)->H' t=some (.tup [.ref l1,.ref l2])->H l1=none->H l2=none->l1≠l2->H' l1=some (.lst ((ss.filter fun s=>decide (sdP m s=0)).map V.str))->H' l2=some (.lst ((ss.filter fun s=>!decide (sdP m s=0)).map V.str))->Q (.ref t) H')) (_:(∀(m:Str->Option (LS)) (a b:Str) (l dx:Addr) (ring:LS) (H':Hp),L2.Same H H'->WyC (tA tps) ss m->(∀ s∈ss,m s≠none)->tA tps a b->sdP m a=sdP m b->OddR (tA tps) ss ring->H l=none->H' l=some (.lst (ring.map V.str))->H' dx=some (.xd [(qeu 0,.ref l)])->E (.ref (cc 0)) (some dx) H'))
theorem qeB:sdW r<2:=by unfold sdW;lk
theorem qaT(e:m s=some r):sdP m s=sdW r:=by unfold sdP;rw[e];rfl
theorem qbV(h:WyH N H d ss m)(e:m z=some r):∃ t,DGet H d (.str z) (some (.ref t))/\H t=some (.lst (r.map V.str)):=by
 obtain⟨kvs,t,h1,a,b⟩:=h.at e;have:=DGet.k (k:=Sum.inr z) h1;rw[a] at this;show⟨t,this,b⟩
theorem ok_sd(F:Fun K "sides_of" "sides_of" zg f fd)(T:Txt K mg cc cw)(Up:XMakeOk P w K mg base 2 (cc 0) "Odd" ["self","ring"] (spX (cc 0) (qeu 0)))(Ub:DefOk P w K mg base CX0 8 "ways_in" ["web"] (spWi cw))(Ky:DefOk P w K mg base CX0 1 "on_first_side" ["way"] spOfs)(Uc:DefOk P w K mg base CX0 1 "ring_of" ["one","other"] spRo)(KJ:MethOk P w K mg base CX0 7 cw "ties" ["self"] (spTs cw))(Kh:MethOk P w K mg base CX0 1 cw "places" ["self"] (spPls cw)):FnOk P w K mg base (CX1 P w) 9 f fd ["web"] (spSd cc cw):=by
 show F.ok1 Kx (fun vs H Q E h=>?_) fun _ _ _ s H vs Q E C h=>?_
 .cases h;subst_vars;rfl
 .obtain⟨x,ss,ns,tps,rfl,W,qy,qn⟩:=h;have U:=ze C;show⟨_,(qc (qm (i:=1) Kx.nd rfl (Xu rfl) (qp Ub (hmR C) qz (qa (pv 0) qd)))
 (qc (jo PassesOwn.leaving rfl (qdF (K:=K) rfl (qS KJ (hmR C) (pv 0))) (qbp rfl (jB (qk (i:=2) Kx.nd rfl (yP rfl)) (jB (qk (i:=3) Kx.nd rfl (yP rfl)) qaM)))
 (qe (qM (qj (zG (K:=K) rfl U) (qp Ky (hmR C) qz (qa (qt (qu (K:=K) rfl U) (pv 1) (pv 2) (fun _ _=>rfl)) qd)) (qp Ky (hmR C) qz (qa (qt (qu (K:=K) rfl U) (pv 1) (pv 3) (fun _ _=>rfl)) qd)) (qw _)) (qe (k_raise (K:=K) rfl qci (pe_xm Up (hmR C) (qa (qp Uc (hmR C) qz (qa (qt (qu (K:=K) rfl U) (pv 1) (pv 2) (fun _ _=>rfl)) (qa (qt (qu (K:=K) rfl U) (pv 1) (pv 3) (fun _ _=>rfl)) qd))) qd)))) qq)))
 (qc (zN (sc:=qh zg) (XN:=["web","ways","one","other","ones","others"]) ["place","ways"] 1 [1] rfl rfl rfl (by room) rfl (by room) (i:=4) Kx.nd rfl rfl
  (qL (K:=K) rfl (qS Kh (hmR C) (pv 0))) (fun _ _ _ _=>(qk (i:=0) (show(["place","ways"]:LS).Nodup by room) rfl (yP rfl))) qW
  (fun _ _ _ _=>(ji (qX (qp Ky (hmR C) qz (qa (qt (qu (K:=K) rfl U) (pv 1) (pv 0) (fun _ _=>rfl)) qd)))))
  (fun _ _ _ _=>(pv 0)))
 (qc (zN (sc:=qh zg) (XN:=["web","ways","one","other","ones","others"]) ["place","ways"] 1 [1] rfl rfl rfl (by room) rfl (by room) (i:=5) Kx.nd rfl rfl
  (qL (K:=K) rfl (qS Kh (hmR C) (pv 0))) (fun _ _ _ _=>(qk (i:=0) (show(["place","ways"]:LS).Nodup by room) rfl (yP rfl))) qW
  (fun _ _ _ _=>(ji (jm (qX (qp Ky (hmR C) qz (qa (qt (qu (K:=K) rfl U) (pv 1) (pv 0) (fun _ _=>rfl)) qd))))))
  (fun _ _ _ _=>(pv 0)))
 (qe (qo (jS (qa (pv 4) (qa (pv 5) qd))))))))),?_⟩
  apply⟨x,ss,ns,tps,rfl,W,fun d m H1 s1 hY O u=>?_⟩;apply qeM ?_;ext;have W1:=W.same s1;obtain⟨wx,dd,ol,nn,hb,av,ay,ax,hw⟩:=id W1.web;show⟨x,wx,_,rfl,hb,j5 (by room),?_⟩;apply⟨x,ss,ns,rfl,W1.web,fun l ts H2 s2 aw hl _ hA=>?_⟩;have I:=s1.trans s2;have G:=hY.same s2;have few:=W.wok.few;have ah:∀ a b,tA tps a b->tA tps b a:=fun a b k=>k.symm;have ai:∀ a,¬ tA tps a a:=fun a k=>k.elim (fun y=>(W.ok _ y).2.2 rfl) fun y=>(W.ok _ y).2.2 rfl
  have get:∀{s},s∈ss->∃ r,m s=some r:=fun{s} hs=>by
   cases e:m s with
   | none=>show absurd e (u s hs)
   | some r=>show⟨r,rfl⟩
  show⟨l,_,rfl,.of hl,qN (xs:=ts.map V.ref) (fun i σ J=>J=H2/\(∃ y2 y3,σ=[some (.ref x),some (.ref d),y2,y3,none,none])/\∀ ab∈(qR ss ns ss.length).take i,sdP m ab.1≠sdP m ab.2) ⟨rfl,⟨_,_,rfl⟩,fun ab h=>by simp at h⟩ (fun i σ J _ p=>by rw[p.1];show .of hl) (fun i y σ J hy p=>?_) fun σ J p=>?_⟩
  .obtain⟨rfl,⟨y2,y3,rfl⟩,A⟩:=p;rw[yd] at hy;obtain⟨t,ht,rfl⟩:=yn.mp hy;obtain⟨ab,R⟩:∃ ab,(qR ss ns ss.length)[i]?=some ab:=⟨_,yb (by rw[<- hA.len];show(yc.mp ht).1)⟩;obtain⟨_,_,et⟩:=hA.at_ i t ab ht R;have g:tA tps ab.1 ab.2:=((qaQ W.wok W.adj).mp (ye R)).1;have m1:ab.1∈ss:=g.elim (fun k=>(W.ok _ k).1) fun k=>(W.ok _ k).2.1;have m2:ab.2∈ss:=g.elim (fun k=>(W.ok _ k).2.1) fun k=>(W.ok _ k).1;obtain⟨r,c⟩:=get m1;obtain⟨q,B⟩:=get m2;obtain⟨ta,ga,n⟩:=qbV G c;obtain⟨tb,gb,aa⟩:=qbV G B;show⟨t,_,rfl,.of et,rfl,_,_,rfl,_,_,rfl,rfl,?_⟩;apply .inr ⟨d,_,rfl,ga,?_⟩;apply⟨ta,r,rfl,n,?_⟩;apply .inr ⟨d,_,rfl,gb,?_⟩;apply⟨tb,q,rfl,aa,?_⟩;show .inl (.inl (.inl ⟨rfl,rfl,?_⟩))
   have e:(if false=true then !eqV (V.bl (decide (sdW r=0))) (V.bl (decide (sdW q=0))) else eqV (V.bl (decide (sdW r=0))) (V.bl (decide (sdW q=0))))=decide (sdW r=sdW q):=by
    rw[yE (by decide)];have h1:=@qeB r;have h2:=@qeB q;unfold eqV;rw[YQ,Yq];simp only[Ye,YZ];lk
   rw[e];apply qJ (fun hc=>?_) fun hc=>?_
   .have hc:=yk hc;obtain⟨h1,hR⟩:=O.ring ah ai g c B hc;have l1:=O.wy.few O.inn c;have l2:=O.wy.few O.inn B;apply .inr ⟨d,_,rfl,ga,?_⟩;apply .inr ⟨d,_,rfl,gb,?_⟩;apply⟨ta,tb,r,q,rfl,n,aa,by lk,by lk,h1,fun lr H3 s3 am er=>?_⟩;apply raise_done (T.xat 0 (by decide)) fun dx H' s' e'=>qn m ab.1 ab.2 lr dx _ H' ((I.trans s3).trans s') O u g (by rw[qaT c,qaT B];show hc) hR (I.free am) (s' _ _ er) e'
   .have hc:sdW r≠sdW q:=fun z=>hc (yD z);show⟨rfl,⟨_,_,rfl⟩,fun cd h=>?_⟩;rw[yH,R] at h;rcases yx.mp h with h | h
    .show A cd h
    .rw [yv.mp h,qaT c,qaT B];show hc
  .obtain⟨rfl,⟨y2,y3,rfl⟩,A⟩:=p;rw[ya,hA.len,yO] at A
   have ag:∀ a b,tA tps a b->sdP m a≠sdP m b:=fun a b k=>by
    have m1:a∈ss:=k.elim (fun z=>(W.ok _ z).1) fun z=>(W.ok _ z).2.1;have m2:b∈ss:=k.elim (fun z=>(W.ok _ z).2.1) fun z=>(W.ok _ z).1;obtain⟨i,hi⟩:=yf m1;obtain⟨j,hj⟩:=yf m2;rcases XW i j with z | z | z
    .show A (a,b) ((qaQ W.wok W.adj).mpr ⟨k,i,j,z,hi,hj⟩)
    .subst z;rw[hi] at hj;cases hj;show absurd k (ai a)
    .show Yd (A (b,a) ((qaQ W.wok W.adj).mpr ⟨ah _ _ k,j,i,z,hj,hi⟩))
   ext;have Wlp:=W.same I;obtain⟨aj,ao,as,aq,ac,_⟩:=id Wlp.web;show⟨x,aj,_,rfl,ac,j5 (by room),?_⟩;apply⟨x,ss,ns,rfl,Wlp.web,fun lp ae=>?_⟩;have X:=qC I (o:=.lst (ss.map V.str)) ae;have Z:=qC (Sr J) (o:=.lst (ss.map V.str)) ae;have M:upd J lp (.lst (ss.map V.str)) lp=some (.lst (ss.map V.str)):=qb;generalize upd J lp (.lst (ss.map V.str))=Jlp at X M Z;have Ylp:=G.same Z;apply .inl ⟨⟨_,.of M⟩,qK (K:=K) (a:=lp) (xs:=ss.map V.str) (fun i ys H'=>H'=Jlp/\ys=((ss.take i).filter fun s=>decide (sdP m s=0)).map V.str) ⟨rfl,rfl⟩ (fun i ys H' _ h=>by rw[h.1];show .of M) (fun i y ys H' hx p=>?_) fun ys H' p=>?_⟩
   .obtain⟨rfl,rfl⟩:=p;rw[yd] at hx;obtain⟨z,hz,rfl⟩:=yn.mp hx;have D:ss.take (i+1)=ss.take i++[z]:=by rw[yH,hz];rfl
    have al:=(yc.mp hz).1;obtain⟨r,c⟩:=get (ye hz);obtain⟨ta,ga,n⟩:=qbV Ylp c;apply .inr ⟨d,_,rfl,ga,?_⟩;apply⟨ta,r,rfl,n,?_⟩;rw[<- qaT c];apply qJ (fun hc=>?_) fun hc=>?_
    .ext;show⟨?_,rfl,?_⟩
     .rw [ya];show qi (yi (yQ _ _) (by rw[yK];lk))
     .rw [D,Yc,yC];simp only[yL,Yw,hc,Xp];rfl
    .show⟨rfl,?_⟩;rw[D,Yc,yC];simp only[yL,Yw,hc];simp
   obtain⟨rfl,rfl⟩:=p;rw[show(ss.map V.str).length=ss.length from ya ..,yO];show⟨by rw[ya];show yT (qi (yi (yQ _ _) (by lk))),fun l1 S=>?_⟩;have u1:=qC X (o:=.lst ((ss.filter fun s=>decide (sdP m s=0)).map V.str)) S;have v1:=qC Z (o:=.lst ((ss.filter fun s=>decide (sdP m s=0)).map V.str)) S;have f1:=X.free S;have e1:upd H' l1 (.lst ((ss.filter fun s=>decide (sdP m s=0)).map V.str)) l1=some (.lst ((ss.filter fun s=>decide (sdP m s=0)).map V.str)):=qb;generalize upd H' l1 (.lst ((ss.filter fun s=>decide (sdP m s=0)).map V.str))=J1 at u1 v1 e1;have Y1:=G.same v1;ext;have Wlq:=W.same u1;obtain⟨ak,ap,au,ar,ad,_⟩:=id Wlq.web;show⟨x,ak,_,rfl,ad,j5 (by room),?_⟩;apply⟨x,ss,ns,rfl,Wlq.web,fun lq af=>?_⟩;have Y:=qC u1 (o:=.lst (ss.map V.str)) af;have L:=qC (Sr J1) (o:=.lst (ss.map V.str)) af;have N:upd J1 lq (.lst (ss.map V.str)) lq=some (.lst (ss.map V.str)):=qb;generalize upd J1 lq (.lst (ss.map V.str))=Jlq at Y N L;have Ylq:=Y1.same L;apply .inl ⟨⟨_,.of N⟩,qK (K:=K) (a:=lq) (xs:=ss.map V.str) (fun i ys H'=>H'=Jlq/\ys=((ss.take i).filter fun s=>!decide (sdP m s=0)).map V.str) ⟨rfl,rfl⟩ (fun i ys H' _ h=>by rw[h.1];show .of N) (fun i y ys H' hx p=>?_) fun ys H' p=>?_⟩
   .obtain⟨rfl,rfl⟩:=p;rw[yd] at hx;obtain⟨z,hz,rfl⟩:=yn.mp hx;have D:ss.take (i+1)=ss.take i++[z]:=by rw[yH,hz];rfl
    have al:=(yc.mp hz).1;obtain⟨r,c⟩:=get (ye hz);obtain⟨ta,ga,n⟩:=qbV Ylq c;apply .inr ⟨d,_,rfl,ga,?_⟩;apply⟨ta,r,rfl,n,?_⟩;rw[<- qaT c];apply qJ (fun hc=>?_) fun hc=>?_
    .ext;show⟨?_,rfl,?_⟩
     .rw [ya];show qi (yi (yQ _ _) (by rw[yK];lk))
     .rw [D,Yc,yC];simp only[yL,Yw,hc,Xp];rfl
    .show⟨rfl,?_⟩;rw[D,Yc,yC];simp only[yL,Yw,hc];simp
   obtain⟨rfl,rfl⟩:=p;rw[show(ss.map V.str).length=ss.length from ya ..,yO];show⟨by rw[ya];show yT (qi (yi (yQ _ _) (by lk))),fun l2 v=>?_⟩;have u2:=qC Y (o:=.lst ((ss.filter fun s=>!decide (sdP m s=0)).map V.str)) v;have v2:=qC L (o:=.lst ((ss.filter fun s=>!decide (sdP m s=0)).map V.str)) v;have f2:=Y.free v;have an:l1≠l2:=fun z=>by rw[<- z,L _ _ e1] at v;cases v
   have e2:upd H' l2 (.lst ((ss.filter fun s=>!decide (sdP m s=0)).map V.str)) l2=some (.lst ((ss.filter fun s=>!decide (sdP m s=0)).map V.str)):=qb;generalize upd H' l2 (.lst ((ss.filter fun s=>!decide (sdP m s=0)).map V.str))=J2 at u2 v2 e2;apply⟨by show 2<=sizeLine;decide,fun t ht=>?_⟩;have u3:=qC u2 (o:=.tup [.ref l1,.ref l2]) ht;have v3:=qC (Sr J2) (o:=.tup [.ref l1,.ref l2]) ht;show qy m t l1 l2 _ u3 O u ag qb f1 f2 an (v3 _ _ (v2 _ _ e1)) (v3 _ _ e2)
theorem PGo.grt(c:∀ a b,tA tps a b->a≠b)(g:PGo ss tps qs):Gr (tA tps) (pt qs):=⟨fun z=>Or.symm z,fun z=>c _ _ z,fun{a b} e=>g.fn.sym a b e,fun{a b} e=>g.fn.tie a b e⟩
theorem mx_le{rs:LP}(d:∀ a b,tA tps a b->a≠b)(c:ss.Nodup)(g:PGo ss tps qs)(m:MxF ss tps qs)(g':PGo ss tps rs):rs.length<=qs.length:=by
 obtain⟨S,F⟩:=m;have h1:=F.most (g'.grt d)
 have n:(ss.filter fun u=>!(pt rs u).isSome&&(S.rows u).isSome).length<=(snL (pt rs) ss).length:=by
  unfold snL
  show qdl (c.filter _) fun x e=>by
   obtain⟨a,b⟩:=yp.mp e;rw[Yh] at b;show yp.mpr ⟨a,b.1⟩
 have h:=qey (f:=pt qs) (ss:=ss);have i:=qey (f:=pt rs) (ss:=ss);have j:=g.cnt c;have l:=g'.cnt c;lk
theorem Wt.ir(W:Wt cw H x ss ns tps):∀ a b,tA tps a b->a≠b:=fun a b z e=>by
 rcases z with z | z
 .show(W.ok _ z).2.2 e
 .show(W.ok _ z).2.2 e.symm
theorem qcM{m:Addr}{Q:VK}(e:H m=some (.lst (l.map V.str)))(q:Q (.bl (decide (s∈l))) H):qdC K false (.str s) (.ref m) H Q:=
 .inl ⟨m,_,rfl,.inl (SqL.of e),rfl,qcp l,by rw[yE (by decide),qbN];show q⟩
theorem K6:FnScope ["web","free","words","place"] ["web"] (qh qbW):=fS
theorem uV:FnScope ["web","place","free"] ["web","place","free"] (qh zy):=fS
theorem Uk:FnScope ["web"] ["web"] (qh qbX):=fS
noncomputable def reL(S:FS)(ss:LS):LS:=ss.filter fun s=>(S.rows s).isSome
noncomputable def wdF(ss:LS)(ns:LN)(a:LS)(v:Str):Str:=if v∈a then "loose" else if (inB ss 0 (ns.getD (ss.idxOf v) 0)).any (fun o=>decide (o∈a))=true then "held" else "fast"
inductive spLo(cw:Addr)(vs:List V)(H:Hp)(Q:VK)(E:XK):Prop|mk (x:Addr) (ss:LS) (ns:LN) (tps:LP) (_:vs=[.ref x]) (_:Wt cw H x ss ns tps) (_:∀(l:Addr) (S:FS) (rs:LP) (H':Hp),L2.Same H H'->PGo ss tps rs->Fn (tA tps) (pt rs) S ss->H' l=some (.lst ((reL S ss).map V.str))->Q (.ref l) H')
inductive spWf(cw:Addr)(vs:List V)(H:Hp)(Q:VK)(E:XK):Prop|mk (x l:Addr) (v:Str) (ss:LS) (ns:LN) (fr:LS) (_:vs=[.ref x,.str v,.ref l]) (_:WebAt cw H x ss ns) (_:v∈ss) (_:H l=some (.lst (fr.map V.str))) (_:∀(H':Hp),L2.Same H H'->Q (.str (wdF ss ns fr v)) H')
inductive spSo(cw:Addr)(vs:List V)(H:Hp)(Q:VK)(E:XK):Prop|mk (x:Addr) (ss:LS) (ns:LN) (tps:LP) (_:vs=[.ref x]) (_:Wt cw H x ss ns tps) (_:∀(d:Addr) (S:FS) (rs:LP) (kvs:List (Key×V)) (H':Hp),L2.Same H H'->PGo ss tps rs->Fn (tA tps) (pt rs) S ss->H' d=some (.dK kvs)->(∀ s∈ss,jR kvs (.inr s:Key)=some (.str (wdF ss ns (reL S ss) s)))->Q (.ref d) H')
inductive spPw(cw:Addr)(vs:List V)(H:Hp)(Q:VK)(E:XK):Prop|mk (x:Addr) (wd:Str) (ss:LS) (ns:LN) (tps:LP) (_:vs=[.ref x,.str wd]) (_:Wt cw H x ss ns tps) (_:∀(l:Addr) (S:FS) (rs:LP) (H':Hp),L2.Same H H'->PGo ss tps rs->Fn (tA tps) (pt rs) S ss->H' l=some (.lst ((ss.filter fun s=>decide (wdF ss ns (reL S ss) s=wd)).map V.str))->Q (.ref l) H')
inductive spHe(cw:Addr)(vs:List V)(H:Hp)(Q:VK)(E:XK):Prop|mk (x:Addr) (ss:LS) (ns:LN) (tps:LP) (_:vs=[.ref x]) (_:Wt cw H x ss ns tps) (_:∀(l:Addr) (S:FS) (rs:LP) (H':Hp),L2.Same H H'->PGo ss tps rs->Fn (tA tps) (pt rs) S ss->H' l=some (.lst ((ss.filter fun s=>decide (wdF ss ns (reL S ss) s="held")).map V.str))->Q (.ref l) H')
inductive spPa(cw:Addr)(vs:List V)(H:Hp)(Q:VK)(E:XK):Prop|mk (x:Addr) (ss:LS) (ns:LN) (tps:LP) (_:vs=[.ref x]) (_:Wt cw H x ss ns tps) (_:∀(t l a:Addr) (ls:LQ) (S:FS) (rs rs':LP) (H':Hp),L2.Same H H'->H' t=some (.tup [.ref l,.ref a])->PL H' l ls rs->PGo ss tps rs->MxF ss tps rs->PGo ss tps rs'->Fn (tA tps) (pt rs') S ss->H' a=some (.lst ((ss.filter fun s=>decide (wdF ss ns (reL S ss) s="held")).map V.str))->Q (.ref t) H')
theorem ok_lo(F:Fun K "loose" "loose" qbX f fd)(T:Txt K mg cc cw)(z:DefOk P w K mg base CX0 14 "greatest" ["web"] (spGr cw))(v:MakeOk P w K mg base CX0 10 (cc 9) "Forest" ["self","web","pairs"] (spFi cc cw))(R:MethOk P w K mg base CX0 2 (cc 9) "reached" ["self"] (spFd2 cc cw)):FnOk P w K mg base CX0 15 f fd ["web"] (spLo cw):=by
 show F.ok Uk fun _ _ _ _ H vs Q E n h=>?_
 .obtain⟨x,ss,ns,tps,rfl,W,q⟩:=h;show⟨_,(qe (qo (qS R (hmR n) (qaY v (hmR n) (qa (pv 0) (qa (qp z (hmR n) qz (qa (pv 0) qd)) qd)))))),?_⟩;apply⟨x,ss,ns,tps,rfl,W,fun l Y rs H1 s J b I=>?_⟩;have p:=W.same s;apply fun y dx M i m=>qeU p J b M i m fun H0 U a S dn wt lo A c N=>?_;subst A;show⟨rfl,?_⟩;obtain⟨C,B,d,_,_,_,g⟩:=id c.fo.obj;have o:=s.trans N;apply⟨a.x,C,B,rfl,d,g _ (by room),?_⟩;apply⟨H0,a,ss,ns,rs,S,dn,wt,lo,_,rfl,c,W.wok.few,fun hl=>?_,fun hl l' u O _ j=>?_⟩
  .rcases c.en with⟨e,_⟩ | ⟨t,r,e,_,_,G,L⟩
   .show absurd e hl
   .obtain⟨D,X⟩:=qdW W.wok W.adj W.ok b G (by lk);have:=mx_le W.ir W.wok.nd b I D;lk
  .subst hl;show q l' S rs u (o.trans O) b (qfq c (p.wb b)) j
theorem ok_wf(F:Fun K "word_for" "word_for" zy f fd)(T:Txt K mg cc cw)(B:MethOk P w K mg base CX0 6 cw "beside" ["self","place"] (spBs cw)):FnOk P w K mg base CX0 7 f fd ["web","place","free"] (spWf cw):=by
 show F.ok uV fun _ _ _ _ H vs Q E t h=>?_
 .obtain⟨x,l,v,ss,ns,c,rfl,W,hv,hl,q⟩:=h;have u:=ze t;show⟨_,(qc (qM (qj (zt (K:=K) rfl u) (pv 1) (pv 2) (by with_unfolding_all rfl)) (qe (qo jH)) qq)
 (qe (qo (qcO (qX (qr (k_any (K:=K) rfl rfl) rfl T.b_any boot_any (qa (jG (sc:=qh zy) (XN:=["web","place","free"]) ["other","free"] 1 [2] rfl rfl rfl (by room) rfl (by room)
  (qL (K:=K) rfl (qF B (hmR t) (pv 0) (qa (pv 1) qd))) (fun _ _ _ _=>(qk (i:=0) (show(["other","free"]:LS).Nodup by room) rfl (yP rfl))) qW
  (fun _ _ _ _=>zm)
  (fun _ _ _ _=>(jq (zt (K:=K) rfl u) (pv 0) (pv 1) (by with_unfolding_all rfl)))) qd))) jH jH)))),?_⟩
  obtain⟨N,O,ol,R,hb,_,_,_,hw⟩:=id W;have few:=hw.few;apply qcM hl ?_;ext;unfold wdF at q;show qJ (fun h1=>?_) fun h1=>?_
  .rw [yG (yk h1)] at q;apply q H (Sr H)
  .rw [yE (fun z=>h1 (yD z))] at q;apply⟨x,N,_,rfl,hb,j5 (by room),?_⟩;ext;obtain⟨j,s⟩:=yf hv;rw[qdK hw.nd s] at q;show⟨x,ss,ns,v,j,rfl,W,s,fun H1 M m I=>?_⟩;generalize n:inB ss 0 (ns.getD j 0)=a at q ⊢;have C:a.length<=14:=by rw[<- n];show yi (qaP _ _ _) few
   have p:=qC M (o:=.lst (a.map V.str)) I;have d:upd H1 m (.lst (a.map V.str)) m=some (.lst (a.map V.str)):=qb;generalize upd H1 m (.lst (a.map V.str))=H2 at p d;show .inl ⟨⟨_,.of d⟩,qK (fun i ys J=>J=H2/\ys=((a.take i).map fun o=>decide (o∈c)).map V.bl) ⟨rfl,rfl⟩ (fun i ys J _ b=>by rw[b.1];show .of d) (fun i y ys J L b=>?_) fun ys J b=>?_⟩
   .obtain⟨rfl,rfl⟩:=b;obtain⟨S,r,rfl⟩:=qbg L;have G:=(yc.mp r).1;apply zA ?_;apply qcM (p _ _ hl) ?_;show⟨by rw[ya,ya,yK];show qi (by lk),rfl,by rw[yH,r,yC,yC];rfl⟩
   .obtain⟨rfl,rfl⟩:=b;rw[show(a.map V.str).length=a.length from ya _,yO];show⟨by rw[ya,ya];show yT (qi (by lk)),fun g D=>?_⟩;apply⟨g,_,rfl,.of qb,?_⟩;rw[Kg];have eq:(a.any (id ∘ fun o=>decide (o∈c)))=a.any fun o=>decide (o∈c):=rfl;rw[eq];have A:=qC p (o:=.lst ((a.map fun o=>decide (o∈c)).map V.bl)) D;apply qJ (fun e=>?_) fun e=>?_
    .rw [yG e] at q;show q _ A
    .rw [yE e] at q;show q _ A
theorem ok_so(F:Fun K "sorts" "sorts" qbW f fd)(T:Txt K mg cc cw)(Um:DefOk P w K mg base CX0 15 "loose" ["web"] (spLo cw))(u7:DefOk P w K mg base CX0 7 "word_for" ["web","place","free"] (spWf cw))(Kh:MethOk P w K mg base CX0 1 cw "places" ["self"] (spPls cw)):FnOk P w K mg base CX0 16 f fd ["web"] (spSo cw):=by
 show F.ok K6 fun _ _ _ s H vs Q E p h=>?_
 .obtain⟨x,ss,ns,tps,rfl,W,q⟩:=h;have hu:=ze p;show⟨_,(qc (qm (i:=1) K6.nd rfl (yP rfl) (qp Um (hmR p) qz (qa (pv 0) qd)))
 (qc (qm (i:=2) K6.nd rfl (yP rfl) jX)
 (qc (jo yZ rfl (qL (K:=K) rfl (qS Kh (hmR p) (pv 0))) (qk (i:=3) K6.nd rfl (yP rfl))
 (qe (jw (qp u7 (hmR p) qz (qa (pv 0) (qa (pv 3) (qa (pv 1) qd)))) (jI (pv 2) (pv 3) (jJ hu)))))
 (qe (qo (pv 2)))))),?_⟩
  have few:=W.wok.few;apply⟨x,ss,ns,tps,rfl,W,fun l S rs H1 Z hG hF hl=>?_⟩;have q:=fun d kvs H' (sm:L2.Same H H')=>q d S rs kvs H' sm hG hF;generalize reL S ss=j at hl q;ext;intro d D;have t:=qC Z (o:=.dK []) D;have U:upd H1 d (.dK []) d=some (.dK []):=qb;have G:H d=none:=Z.free D;have l2:=(qC (Sr H1) (o:=.dK []) D) _ _ hl;generalize upd H1 d (.dK [])=H2 at t U l2;obtain⟨wx,dd,ol,nn,hb,_⟩:=id W.web;apply⟨x,wx,_,rfl,t _ _ hb,j5 (by room),?_⟩;apply⟨x,ss,ns,rfl,W.web.same t,fun m L=>?_⟩;have s3:=qC t (o:=.lst (ss.map V.str)) L;have b:upd H2 m (.lst (ss.map V.str)) m=some (.lst (ss.map V.str)):=qb;have a:=(qC (Sr H2) (o:=.lst (ss.map V.str)) L) _ _ U;have r:=(qC (Sr H2) (o:=.lst (ss.map V.str)) L) _ _ l2;generalize upd H2 m (.lst (ss.map V.str))=H3 at s3 b a r;have O:m≠d:=fun z=>by rw[z,a] at b;cases b
  have N:l≠d:=fun z=>by rw[z,a] at r;cases r
  show .inl ⟨⟨_,.of b⟩,qN (xs:=ss.map V.str) (fun i A J=>L2.Same H J/\J m=some (.lst (ss.map V.str))/\J l=some (.lst (j.map V.str))/\∃(kvs:List (Key×V)) (R:Option V),A=[some (.ref x),some (.ref l),some (.ref d),R]/\J d=some (.dK kvs)/\kvs.length<=i/\∀ s∈ss.take i,jR kvs (.inr s:Key)=some (.str (wdF ss ns j s))) ⟨s3,b,r,[],_,rfl,a,yh _,fun s h=>by simp at h⟩ (fun i A J _ c=>.of c.2.1) (fun i y A J hy c=>?_) fun A J c=>?_⟩
  .obtain⟨v,Y,M,kvs,R,rfl,B,I,n⟩:=c;obtain⟨g,C,rfl⟩:=qbg hy;have aa:=(yc.mp C).1;apply⟨x,l,g,ss,ns,j,rfl,W.web.same v,ye C,M,fun J2 u=>?_⟩;apply .inr ⟨d,_,rfl,DPut.k (k:=Sum.inr g) (u _ _ B) (qi (by lk)),?_⟩;show⟨qaO (v.trans u) G,by rw[qf O];show u _ _ Y,by rw[qf N];show u _ _ M,_,_,rfl,qb,?_,fun s X=>?_⟩
   .have:=jh kvs (Sum.inr g:Key) (V.str (wdF ss ns j g));lk
   .rw [zC];by_cases e:s=g
    .subst e;rw[yG rfl]
    .rw [yE (fun z=>e (xj z))];rw[yH,C] at X;rcases yx.mp X with z | z
     .show n s z
     .show absurd (yv.mp z) e
  .obtain⟨v,Y,M,kvs,R,rfl,B,I,n⟩:=c;rw[show(ss.map V.str).length=ss.length from ya _,yO] at n;apply q d kvs J v B n
theorem Kq:FnScope ["web","first","words","cover"] ["web"] (qh qU):=fS
theorem uW:FnScope ["word","first"] ["word","first"] (qh qah):=fS
inductive spIc(vs:List V)(H:Hp)(Q:VK)(E:XK):Prop|mk (wd:Str) (b:Bool) (_:vs=[.str wd,.bl b]) (_:∀ c:Bool,Q (.bl c) H)
inductive spGs(cc:Nat->Addr)(cw:Addr)(vs:List V)(H:Hp)(Q:VK)(E:XK):Prop|mk (x:Addr) (ss:LS) (ns:LN) (tps:LP) (_:vs=[.ref x]) (_:Wt cw H x ss ns tps) (_:(∀(m:Str->Option (LS)) (t:Addr) (v1 v2:V) (H':Hp),L2.Same H H'->WyC (tA tps) ss m->(∀ s∈ss,m s≠none)->(∀ a b,tA tps a b->sdP m a≠sdP m b)->H' t=some (.tup [v1,v2])->Q (.ref t) H')) (_:(∀(m:Str->Option (LS)) (a b:Str) (l dx:Addr) (ring:LS) (H':Hp),L2.Same H H'->WyC (tA tps) ss m->(∀ s∈ss,m s≠none)->tA tps a b->sdP m a=sdP m b->OddR (tA tps) ss ring->H l=none->H' l=some (.lst (ring.map V.str))->H' dx=some (.xd [(qeu 0,.ref l)])->E (.ref (cc 0)) (some dx) H'))
theorem ok_ic(F:Fun K "in_cover" "in_cover" qah f fd)(T:Txt K mg cc cw):FnOk P w K mg base CX0 1 f fd ["word","first"] spIc:=by
 show F.ok uW fun _ _ _ _ H vs Q E c h=>?_
 .obtain⟨d,b,rfl,q⟩:=h;have a:=ze c;show⟨_,(qe (qo (pe_or (jq (zG (K:=K) rfl a) (pv 0) jH (qw _)) (qa4 (qbo (jq (zG (K:=K) rfl a) (pv 0) jH (qw _)) (qa4 (pv 1))))))),?_⟩;apply .inl (.inl (.inl ⟨rfl,rfl,?_⟩));apply qJ (fun _=>q true) fun _=>?_;apply .inl (.inl (.inl ⟨rfl,rfl,?_⟩));apply qJ (fun _=>?_) fun _=>?_
  .ext;show q b
  .show q _
theorem ok_gs(F:Fun K "greatest_by_sides" "greatest_by_sides" qU f fd)(T:Txt K mg cc cw)(U:DefOk P w K mg base (CX1 P w) 9 "sides_of" ["web"] (spSd cc cw))(Y:DefOk P w K mg base CX0 16 "sorts" ["web"] (spSo cw))(u8:DefOk P w K mg base CX0 1 "in_cover" ["word","first"] spIc)(R:DefOk P w K mg base CX0 14 "greatest" ["web"] (spGr cw))(X:MethOk P w K mg base CX0 1 cw "places" ["self"] (spPls cw)):FnOk P w K mg base (CX1 P w) 17 f fd ["web"] (spGs cc cw):=by
 show F.ok1 Kq (fun vs H Q E h=>?_) fun _ _ _ _ H vs Q E e h=>?_
 .cases h;subst_vars;rfl
 .obtain⟨x,ss,ns,tps,rfl,W,qy,qn⟩:=h;have B:=ze e;show⟨_,(qc (qm (i:=1) Kq.nd rfl (Xu rfl) (qt (qu (K:=K) rfl B) (qcC U (hmR e) qci (qa (pv 0) qd)) qg (fun _ _=>rfl)))
 (qc (qm (i:=2) Kq.nd rfl (Xu rfl) (qp Y (hmR e) qz (qa (pv 0) qd)))
 (qc (zN (sc:=qh qU) (XN:=["web","first","words","cover"]) ["place","words","first"] 1 [2,1] rfl rfl rfl (by room) rfl (by room) (i:=3) Kq.nd rfl rfl
  (qL (K:=K) rfl (qS X (hmR e) (pv 0))) (fun _ _ _ _=>(qk (i:=0) (show(["place","words","first"]:LS).Nodup by room) rfl (yP rfl))) qW
  (fun _ _ _ _=>(ji (qX (qp u8 (hmR e) qz (qa (qt (qu (K:=K) rfl B) (pv 1) (pv 0) (fun _ _=>rfl)) (qa (jq (zt (K:=K) rfl B) (pv 0) (pv 2) (by with_unfolding_all rfl)) qd))))))
  (fun _ _ _ _=>(pv 0)))
 (qe (qo (jS (qa (qp R (hmR e) qz (qa (pv 0) qd)) (qa (pv 3) qd)))))))),?_⟩
  apply⟨x,ss,ns,tps,rfl,W,fun m t l1 l2 H1 I hC g A et ac ad ae Z e2=>?_,qn⟩;show .inl (qaX et (v:=.ref l1) (qx (j:=0) rfl) ?_);apply⟨x,ss,ns,tps,rfl,W.same I,fun d S rs kvs H2 J _ _ hd hv=>?_⟩;have p:=I.trans J;have few:=W.wok.few;ext;have D:=W.same p;obtain⟨wx,dd,ol,nn,hb,_⟩:=id D.web;show⟨x,wx,_,rfl,hb,j5 (by room),?_⟩;apply⟨x,ss,ns,rfl,D.web,fun q b=>?_⟩;have L:=qC p (o:=.lst (ss.map V.str)) b;have M:=qC J (o:=.lst (ss.map V.str)) b;have N:=qC (Sr H2) (o:=.lst (ss.map V.str)) b _ _ hd;have r:upd H2 q (.lst (ss.map V.str)) q=some (.lst (ss.map V.str)):=qb;generalize upd H2 q (.lst (ss.map V.str))=O at L M N r;apply .inl ⟨⟨_,.of r⟩,qK (K:=K) (a:=q) (xs:=ss.map V.str) (fun i ys H'=>H'=O/\ys.length<=i) ⟨rfl,yh _⟩ (fun i ys H' _ h=>by rw[h.1];show .of r) (fun i y ys H' G u=>?_) fun ys H' u=>?_⟩
  .obtain⟨rfl,n⟩:=u;rw[yd] at G;obtain⟨z,hz,rfl⟩:=yn.mp G;have aa:=(yc.mp hz).1;apply .inr ⟨d,_,rfl,by have:=DGet.k (k:=Sum.inr z) N;rw[hv z (ye hz)] at this;show this,?_⟩;apply qcM (M _ _ Z) ?_;apply⟨_,_,rfl,fun c=>?_⟩;apply qJ (fun hc=>?_) fun hc=>?_
   .ext;show⟨qi (by lk),rfl,by rw[yt];show ys.length+1<=i+1;lk⟩
   .show⟨rfl,by lk⟩
  .obtain⟨rfl,n⟩:=u;rw[ya] at n;show⟨yT (qi (by lk)),fun lc s=>?_⟩;have C:=qC L (o:=.lst ys) s;generalize upd H' lc (.lst ys)=H4 at C;apply⟨x,ss,ns,tps,rfl,W.same C,fun l ls rs H5 s5 _ _ _=>?_⟩;apply⟨by show 2<=sizeLine;decide,fun t2 h2=>?_⟩;show qy m t2 _ _ _ (qC (C.trans s5) h2) hC g A qb
noncomputable def szC(ss:LS)(c:Str->Option Nat):Nat:=(ss.filter fun s=>(c s).isSome).length
theorem szC_le:szC ss c<=ss.length:=yQ _ _
def ExtC(c c':Str->Option Nat):Prop:=∀ z k,c z=some k->c' z=some k
theorem ExtC.some(h:ExtC c c')(e:(c z).isSome=true):(c' z).isSome=true:=by
 obtain⟨k,a⟩:=YL.mp e;rw[h z k a];rfl
theorem filter_le{p q:Str->Bool}(h:∀ s,p s=true->q s=true):(ss.filter p).length<=(ss.filter q).length:=by
 induction ss with
 | nil=>show yh _
 | cons a r ih =>
  rw[yL,yL];by_cases b:p a=true
  .rw [yG b,yG (h a b),yy,yy];lk
  .rw [yE b];split
   .rw [yy];lk
   .show ih
theorem filter_lt{p q:Str->Bool}(h:∀ s,p s=true->q s=true){x:Str}(hx:x∈ss)(d:p x≠true)(c:q x=true):(ss.filter p).length<(ss.filter q).length:=by
 induction ss with
 | nil=>cases hx
 | cons a r ih =>
  rw[yL,yL];rcases yz.mp hx with e | hx
  .rw [<- e,yE d,yG c,yy];have:=filter_le (ss:=r) h;lk
  .have:=ih hx;by_cases b:p a=true
   .rw [yG b,yG (h a b),yy,yy];lk
   .rw [yE b];split
    .rw [yy];lk
    .show this
def ClC(A:Str->Str->Prop)(c:Str->Option Nat):Prop:=∀ a b,A a b->(c a).isSome=true->(c b).isSome=true
theorem lap_on(e:ExtC c c')(inn:∀ a b,A a b->b∈ss)(h:∀ a b,A a b->(c a).isSome=true->(c' b).isSome=true):ClC A c\/szC ss c+1<=szC ss c':=by
 by_cases hc:ClC A c
 .show .inl hc
 .show .inr ?_;obtain⟨a,hc⟩:=Classical.not_forall.mp hc;obtain⟨b,hc⟩:=Classical.not_forall.mp hc;obtain⟨t,hc⟩:=Classical.not_imp.mp hc;obtain⟨d,hb⟩:=Classical.not_imp.mp hc;show filter_lt (fun s k=>e.some k) (inn a b t) hb (h a b t d)
def CoH(H:Hp)(d:Addr)(ss:LS)(c:Str->Option Nat):Prop:=∃ kvs,H d=some (.dK kvs)/\(∃ a:LS,kvs.length<=a.length/\a.Nodup/\∀ u∈a,u∈ss/\c u≠none)/\∀ s,jR kvs (.inr s:Key)=(c s).map fun k=>V.int (k:Nat)
theorem CoH.same(h:CoH H d ss c)(s:L2.Same H H'):CoH H' d ss c:=by
 obtain⟨kvs,h1,a,b⟩:=h;show⟨kvs,s _ _ h1,a,b⟩
theorem CoH.put{k:Nat}(i:∃ f:LS,kvs.length<=f.length/\f.Nodup/\∀ u∈f,u∈ss/\c u≠none)(hv:∀ s,jR kvs (.inr s:Key)=(c s).map fun k=>V.int (k:Nat))(hz:c z=none)(j:z∈ss):CoH (upd H d (.dK (jW kvs (Sum.inr z) (.int (k:Nat))))) d ss (qbi c z k):=by
 obtain⟨f,m,l,g⟩:=i;show⟨_,qb,⟨f++[z],?_,yX.mpr ⟨l,by simp,fun a h b hb e=>?_⟩,fun u hu=>?_⟩,fun s=>?_⟩
 .have:=jh kvs (Sum.inr z:Key) (.int (k:Nat));rw[yt];show _<=_+1;lk
 .rw [yv.mp hb] at e;rw[e] at h;show(g z h).2 hz
 .rcases yx.mp hu with hu | hu
  .show⟨(g u hu).1,?_⟩;rw[jV (fun e=>(g u hu).2 (by rw[e];show hz))];show(g u hu).2
  .rw [yv.mp hu,jf];show⟨j,fun e=>by cases e⟩
 .rw [zC];by_cases e:s=z
  .subst e;rw[yG rfl,jf];rfl
  .rw [yE (fun y=>e (xj y)),jV e];show hv s
theorem CoH.get(h:CoH H d ss c){k:Nat}(e:c z=some k):DGet H d (.str z) (some (.int (k:Nat))):=by
 obtain⟨kvs,h1,b,a⟩:=h;have:=DGet.k (k:=Sum.inr z) h1;rw[a,e] at this;show this
theorem CoH.in_{a:Bool}{Q:VK}(h:CoH H d ss c)(q:Q (.bl (if a then !(c z).isSome else(c z).isSome)) H):qdC K a (.str z) (.ref d) H Q:=by
 obtain⟨kvs,h1,f,b⟩:=h;show .inr (.inl ⟨d,_,rfl,DGet.k (k:=Sum.inr z) h1,?_⟩);rw[b];have e:((c z).map fun k=>V.int ((k:Nat):Int)).isSome=(c z).isSome:=by cases c z<;>rfl
 rw[e];show q
theorem Ko:FnScope ["_law_names_here","_law_ties","_law_colours_here","_law_start","_law_lap","_law_one","_law_other"] ["_law_names_here","_law_ties"] (qh zK):=fS
theorem Rc.keyC(d:ClC A c)(h:Rc A a b)(e:(c a).isSome=true):(c b).isSome=true:=by
 induction h with
 | refl=>show e
 | on _ t ih=>show d _ _ t ih
theorem ClC.first(h:ClC A c){p:Str}(b:ss[i]?=some p)(e:c p=none)(all:∀ z∈ss.take i,(c z).isSome=true):Fst A ss p:=
 ⟨i,b,fun j y d a k=>by
  have:=k.keyC h (all y (ye (i:=j) (by rw[xJ,yG d];show a)));rw[e] at this;cases this⟩
theorem ExtC.set{k:Nat}(h:c z=none):ExtC c (qbi c z k):=fun x j e=>by rw[jV (fun y=>by rw[y,h] at e;cases e)];show e
theorem ExtC.trans{a b:Str->Option Nat}(h:ExtC a b)(k:ExtC b c):ExtC a c:=fun z j e=>k z j (h z j e)
theorem ExtC.refl{a:Str->Option Nat}:ExtC a a:=fun _ _ e=>e
structure LpI(A:Str->Str->Prop)(ss:LS)(tps:LP)(c0 c:Str->Option Nat):Prop where
 xtc:ExtC c0 c
 drv:Drv A (Fst A ss) c
 all:∀ ab∈tps,((c0 ab.1).isSome=true->(c ab.2).isSome=true)/\((c0 ab.2).isSome=true->(c ab.1).isSome=true)
 cl:ClC A c0->c=c0
theorem LpI.set(h:LpI A ss tps c0 c)(b:c y=some j)(a:A y z)(hz:c z=none):LpI A ss tps c0 (qbi c z (1-j)):=
 ⟨h.xtc.trans (.set hz),h.drv.step b a hz,fun ab k=>⟨fun e=>(ExtC.set hz).some ((h.all ab k).1 e),fun e=>(ExtC.set hz).some ((h.all ab k).2 e)⟩,fun k=>by
  have e:=h.cl k;subst e;have:=k y z a (by rw[b];rfl);rw[hz] at this;cases this⟩
theorem LpI.done(h:LpI A ss tps c0 c)(h1:(c ab.1).isSome=true↔(c ab.2).isSome=true):LpI A ss (tps++[ab]) c0 c:=
 ⟨h.xtc,h.drv,fun a k=>by
  rcases yx.mp k with k | k
  .show h.all a k
  .rw [yv.mp k];show⟨fun e=>h1.mp (h.xtc.some e),fun e=>h1.mpr (h.xtc.some e)⟩,h.cl⟩
inductive spCol(vs:List V)(H:Hp)(Q:VK)(E:XK):Prop|mk (n tl:Addr) (ss:LS) (ts:LQ) (tps:LP) (_:vs=[.ref n,.ref tl]) (_:H n=some (.lst (ss.map V.str))) (_:ss.length<=14) (_:PL H tl ts tps) (_:(∀ ab∈tps,ab.1∈ss/\ab.2∈ss/\ab.1≠ab.2)) (_:(∀(d:Addr) (c:Str->Option Nat) (H':Hp),L2.Same H H'->H d=none->CoH H' d ss c->Drv (tA tps) (Fst (tA tps) ss) c->(∀ s∈ss,∃ k,c s=some k)->(∀ a b,tA tps a b->c a≠c b)->Q (.ref d) H')) (_:(∀(c:Str->Option Nat) (a b:Str) (H':Hp),L2.Same H H'->Drv (tA tps) (Fst (tA tps) ss) c->(∀ s∈ss,∃ k,c s=some k)->tA tps a b->c a=c b->Q .non H'))
theorem ok_col(F:Fun K "_law_colours" "_law_colours" zK f fd)(T:Txt K mg cc cw):FnOk P w K mg base CX0 1 f fd ["_law_names_here","_law_ties"] spCol:=by
 show F.ok Ko fun _ _ _ s H vs Q E hr h=>?_
 .obtain⟨n,tl,ss,ts,tps,rfl,hn,few,Y,aa,qy,qn⟩:=h;have B:=ze hr;have ai:∀ a b,tA tps a b->b∈ss:=fun a b k=>k.elim (fun y=>(aa _ y).2.1) fun y=>(aa _ y).1;show⟨_,(qc (qm (i:=2) Ko.nd rfl (yP rfl) jX)
 (qc (jo yZ rfl (qL (K:=K) rfl (pv 0)) (qk (i:=3) Ko.nd rfl (yP rfl))
 (qe (qM (qj (jC (K:=K) rfl B) (pv 3) (pv 2) (by with_unfolding_all rfl)) (qc (jw qg (jI (pv 2) (pv 3) (jJ B)))
 (qe (jo yZ rfl (qL (K:=K) rfl (pv 0)) (qk (i:=4) Ko.nd rfl (yP rfl))
 (qe (jo yZ rfl (qdF (K:=K) rfl (pv 1)) (qbp rfl (jB (qk (i:=5) Ko.nd rfl (yP rfl)) (jB (qk (i:=6) Ko.nd rfl (yP rfl)) qaM)))
 (qc (qM (PW.pt (qaS (qj (zt (K:=K) rfl B) (pv 5) (pv 2) (by with_unfolding_all rfl)) (qal (qj (jC (K:=K) rfl B) (pv 6) (pv 2) (by with_unfolding_all rfl))))) (qe (jw (qE qbq qg (qt (qu (K:=K) rfl B) (pv 2) (pv 5) (fun _ _=>rfl))) (jI (pv 2) (pv 6) (jJ B)))) qq)
 (qe (qM (PW.pt (qaS (qj (zt (K:=K) rfl B) (pv 6) (pv 2) (by with_unfolding_all rfl)) (qal (qj (jC (K:=K) rfl B) (pv 5) (pv 2) (by with_unfolding_all rfl))))) (qe (jw (qE qbq qg (qt (qu (K:=K) rfl B) (pv 2) (pv 6) (fun _ _=>rfl))) (jI (pv 2) (pv 5) (jJ B)))) qq)))))))) qq)))
 (qc (jo yZ rfl (qdF (K:=K) rfl (pv 1)) (qbp rfl (jB (qk (i:=5) Ko.nd rfl (yP rfl)) (jB (qk (i:=6) Ko.nd rfl (yP rfl)) qaM)))
 (qe (qM (qj (zG (K:=K) rfl B) (qt (qu (K:=K) rfl B) (pv 2) (pv 5) (fun _ _=>rfl)) (qt (qu (K:=K) rfl B) (pv 2) (pv 6) (fun _ _=>rfl)) (qw _)) (qe (qo zk)) qq)))
 (qe (qo (pv 2)))))),?_⟩
  ext;intro d hd;have s1:=qC (Sr H) (o:=.dK []) hd;have ed:upd H d (.dK []) d=some (.dK []):=qb;generalize upd H d (.dK [])=H1 at s1 ed;have out:∀{J:Hp},BxD d H1 J->L2.Same H J:=fun R b o e=>R b o (fun z=>by rw[z,hd] at e;cases e) (s1 _ _ e);apply .inl ⟨⟨_,.of (s1 _ _ hn)⟩,qN (xs:=ss.map V.str) (fun i q J=>∃(c:Str->Option Nat) (y3 Z v x:Option V),q=[some (.ref n),some (.ref tl),some (.ref d),y3,Z,v,x]/\BxD d H1 J/\CoH J d ss c/\Drv (tA tps) (Fst (tA tps) ss) c/\ClC (tA tps) c/\∀ z∈ss.take i,(c z).isSome=true)
   ⟨fun _=>none,_,_,_,_,rfl,fun b o _ e=>e,⟨[],ed,⟨[],yh _,kx,fun u B=>by cases B⟩,fun s=>rfl⟩,.nil,(fun a b _ k=>by cases k),fun z hz=>by simp at hz⟩ (fun i q J _ g=>?_) (fun i y q J W g=>?_) fun q J g=>?_⟩
  .obtain⟨c,y3,Z,v,x,_,R,_⟩:=g;show .of (out R _ _ hn)
  .obtain⟨c,y3,Z,v,x,rfl,R,hY,hD,hC,p⟩:=g;rw[yd] at W;obtain⟨st,ho,rfl⟩:=yn.mp W;have am:=ye ho;have ae:ss.take (i+1)=ss.take i++[st]:=by rw[yH,ho];rfl
   apply hY.in_ ?_;rw[yG rfl];ext
   cases hm:c st with
   | some k =>
    show yq ?_;show⟨c,_,_,_,_,rfl,R,hY,hD,hC,fun b hb=>?_⟩;rw[ae] at hb;rcases yx.mp hb with hb | hb
    .show p b hb
    .rw [yv.mp hb,hm];rfl
   | none =>
    show zA ?_;ext
    have ag:∀{c':Str->Option Nat} {kvs:List (Key×V)},(∃ po:LS,kvs.length<=po.length/\po.Nodup/\∀ u∈po,u∈ss/\c' u≠none)->kvs.length<sizeLine:=fun⟨po,p1,p2,p3⟩=>by
     have:=jk (l:=po) (m:=ss) p2 fun u B=>(p3 u B).1;rw[YA];lk
    obtain⟨kvs,ao,al,aq⟩:=id hY;show .inr ⟨d,_,rfl,DPut.k (k:=Sum.inr st) ao (ag al),?_⟩;have Y2:CoH (upd J d (.dK (jW kvs (Sum.inr st) (.int 0)))) d ss (qbi c st 0):=CoH.put (k:=0) al aq hm am;have b2:BxD d H1 (upd J d (.dK (jW kvs (Sum.inr st) (.int 0)))):=fun b o n e=>by rw[qf n];show R b o n e
    generalize upd J d (.dK (jW kvs (Sum.inr st) (.int 0)))=J2 at Y2 b2;have hF:=hC.first ho hm p;have D2:=hD.start hF hm;have E2:ExtC c (qbi c st 0):=.set hm;apply .inl ⟨⟨_,.of (out b2 _ _ hn)⟩,qN (xs:=ss.map V.str) (fun j q G=>∃(M:Str->Option Nat) (Z v x:Option V),q=[some (.ref n),some (.ref tl),some (.ref d),some (.str st),Z,v,x]/\BxD d H1 G/\CoH G d ss M/\Drv (tA tps) (Fst (tA tps) ss) M/\ExtC (qbi c st 0) M/\(ClC (tA tps) M\/szC ss (qbi c st 0)+j<=szC ss M))
     ⟨qbi c st 0,_,_,_,rfl,b2,Y2,D2,.refl,.inr (yh _)⟩ (fun j q G _ g=>?_) (fun j y q G W g=>?_) fun q G g=>?_⟩
    .obtain⟨M,Z,v,x,_,bG,_⟩:=g;show .of (out bG _ _ hn)
    .obtain⟨M,Z,v,x,rfl,bG,YG,DG,EG,ac⟩:=g;rw[yd] at W;obtain⟨lp,_,rfl⟩:=yn.mp W;apply qeM ?_;apply⟨tl,_,rfl,.of (out bG _ _ Y.1),qN (xs:=ts.map V.ref) (fun N q C=>∃(r:Str->Option Nat) (v x:Option V),q=[some (.ref n),some (.ref tl),some (.ref d),some (.str st),some (.str lp),v,x]/\BxD d H1 C/\CoH C d ss r/\LpI (tA tps) ss (tps.take N) M r)
      ⟨M,_,_,rfl,bG,YG,⟨.refl,DG,(fun ab k=>by simp at k),fun _=>rfl⟩⟩ (fun N q C _ g=>?_) (fun N y q C W g=>?_) fun q C g=>?_⟩
     .obtain⟨r,v,x,_,b5,_⟩:=g;show .of (out b5 _ _ Y.1)
     .obtain⟨r,v,x,rfl,b5,L,D⟩:=g;rw[yd] at W;obtain⟨t,ht,rfl⟩:=yn.mp W;obtain⟨ab,I⟩:∃ ab,tps[N]?=some ab:=⟨_,yb (by rw[<- Y.2.len];show(yc.mp ht).1)⟩;have et:=out b5 _ _ (Y.2.at_ N t ab ht I);have O:=ye I;have aj:tA tps ab.1 ab.2:=.inl O;have ak:tA tps ab.2 ab.1:=.inr O;have ap:tps.take (N+1)=tps.take N++[ab]:=by rw[yH,I];rfl
      rw[ap];show⟨t,_,rfl,.of et,rfl,_,_,rfl,_,_,rfl,rfl,?_⟩;apply L.in_ ?_;rw[yE (by decide)];ext
      cases h1:r ab.1 with
      | some j =>
       show zA ?_;apply L.in_ ?_;rw[yG rfl]
       cases S:r ab.2 with
       | none =>
        have hj:=D.drv.lt _ _ h1;have ej:(1:Int)-(j:Int)=((1-j:Nat):Int):=by lk
        apply zA ?_;apply .inr ⟨d,_,rfl,L.get h1,?_⟩;ext;obtain⟨X,af,A,ah⟩:=id L;show .inr ⟨d,_,rfl,DPut.k (k:=Sum.inr ab.2) af (ag A),?_⟩;rw[ej];have Y6:=CoH.put (H:=C) (d:=d) (k:=1-j) A ah S (ai _ _ aj);have b6:BxD d H1 (upd C d (.dK (jW X (Sum.inr ab.2) (.int ((1-j:Nat):Int))))):=fun b o n e=>by rw[qf n];show b5 b o n e
        have L6:=D.set h1 aj S;have g2:qbi r ab.2 (1-j) ab.2=some (1-j):=jf;have g1:qbi r ab.2 (1-j) ab.1=some j:=ExtC.set S _ _ h1;generalize upd C d (.dK (jW X (Sum.inr ab.2) (.int ((1-j:Nat):Int))))=G3 at Y6 b6;generalize qbi r ab.2 (1-j)=c3 at Y6 L6 g1 g2;apply Y6.in_ ?_;rw[yE (by decide),g2];apply zA ?_;apply Y6.in_ ?_;rw[yG rfl,g1];apply yq ?_;show⟨c3,_,_,rfl,b6,Y6,L6.done (by rw[g1,g2];show⟨fun _=>rfl,fun _=>rfl⟩)⟩
       | some k =>
        apply yq ?_;apply L.in_ ?_;rw[yE (by decide),S];apply zA ?_;apply L.in_ ?_;rw[yG rfl,h1];apply yq ?_;show⟨r,_,_,rfl,b5,L,D.done (by rw[h1,S];show⟨fun _=>rfl,fun _=>rfl⟩)⟩
      | none =>
       show yq ?_;show yq ?_;apply L.in_ ?_;rw[yE (by decide)];ext
       cases S:r ab.2 with
       | some k =>
        show zA ?_;apply L.in_ ?_;rw[yG rfl,h1];have hj:=D.drv.lt _ _ S;have ej:(1:Int)-(k:Int)=((1-k:Nat):Int):=by lk
        apply zA ?_;apply .inr ⟨d,_,rfl,L.get S,?_⟩;ext;obtain⟨X,af,A,ah⟩:=id L;show .inr ⟨d,_,rfl,DPut.k (k:=Sum.inr ab.1) af (ag A),?_⟩;rw[ej];have Y6:=CoH.put (H:=C) (d:=d) (k:=1-k) A ah h1 (ai _ _ ak);have b6:BxD d H1 (upd C d (.dK (jW X (Sum.inr ab.1) (.int ((1-k:Nat):Int))))):=fun b o n e=>by rw[qf n];show b5 b o n e
        have L6:=D.set S ak h1;have g2:qbi r ab.1 (1-k) ab.1=some (1-k):=jf;have g1:qbi r ab.1 (1-k) ab.2=some k:=ExtC.set h1 _ _ S;generalize upd C d (.dK (jW X (Sum.inr ab.1) (.int ((1-k:Nat):Int))))=G3 at Y6 b6;generalize qbi r ab.1 (1-k)=c3 at Y6 L6 g1 g2;show⟨c3,_,_,rfl,b6,Y6,L6.done (by rw[g1,g2];show⟨fun _=>rfl,fun _=>rfl⟩)⟩
       | none =>
        show yq ?_;show yq ?_;show⟨r,_,_,rfl,b5,L,D.done (by rw[h1,S])⟩
     .obtain⟨r,v,x,rfl,b5,L,D⟩:=g;rw[ya,Y.2.len,yO] at D;show⟨r,_,_,_,rfl,b5,L,D.drv,EG.trans D.xtc,?_⟩;have la:∀ a b,tA tps a b->(M a).isSome=true->(r b).isSome=true:=fun a b k e=>k.elim (fun z=>(D.all _ z).1 e) fun z=>(D.all _ z).2 e;rcases lap_on D.xtc ai la with k | k
      .rw [D.cl k];show .inl k
      .rcases ac with z | z
       .rw [D.cl z];show .inl z
       .show .inr (by lk)
    .obtain⟨M,Z,v,x,rfl,bG,YG,DG,EG,ac⟩:=g;rw[ya] at ac
     have an:ClC (tA tps) M:=by
      rcases ac with z | z
      .show z
      .have k1:=szC_le (ss:=ss) (c:=M)
       have k2:0<szC ss (qbi c st 0):=xi.mpr fun e=>by
        have:st∈ss.filter fun s=>(qbi c st 0 s).isSome:=yp.mpr ⟨am,by rw[jf];rfl⟩;rw[e] at this;cases this
       lk
     show⟨M,_,_,_,_,rfl,bG,YG,DG,an,fun b hb=>?_⟩;rw[ae] at hb;rcases yx.mp hb with hb | hb
     .show(E2.trans EG).some (p b hb)
     .rw [yv.mp hb];show EG.some (by rw[jf];rfl)
  .obtain⟨c,y3,Z,v,x,rfl,R,hY,hD,hC,p⟩:=g;rw[ya,yO] at p;apply qeM ?_;ext;have ad:∀ s∈ss,∃ k,c s=some k:=fun s hs=>YL.mp (p s hs);show⟨tl,_,rfl,.of (out R _ _ Y.1),qN (xs:=ts.map V.ref) (fun N q C=>C=J/\(∃ v x:Option V,q=[some (.ref n),some (.ref tl),some (.ref d),y3,Z,v,x])/\∀ ab∈tps.take N,c ab.1≠c ab.2) ⟨rfl,⟨_,_,rfl⟩,fun ab k=>by simp at k⟩ (fun N q C _ g=>by rw[g.1];show .of (out R _ _ Y.1)) (fun N y q C W g=>?_) fun q C g=>?_⟩
   .obtain⟨rfl,⟨v,x,rfl⟩,U⟩:=g;rw[yd] at W;obtain⟨t,ht,rfl⟩:=yn.mp W;obtain⟨ab,I⟩:∃ ab,tps[N]?=some ab:=⟨_,yb (by rw[<- Y.2.len];show(yc.mp ht).1)⟩;have et:=out R _ _ (Y.2.at_ N t ab ht I);have O:=ye I;obtain⟨k1,e1⟩:=ad _ (aa ab O).1;obtain⟨k2,e2⟩:=ad _ (aa ab O).2.1;show⟨t,_,rfl,.of et,rfl,_,_,rfl,_,_,rfl,rfl,?_⟩;apply .inr ⟨d,_,rfl,hY.get e1,?_⟩;apply .inr ⟨d,_,rfl,hY.get e2,?_⟩;show .inl (.inl (.inl ⟨rfl,rfl,?_⟩))
    have e:(if false=true then !eqV (V.int (k1:Nat)) (V.int (k2:Nat)) else eqV (V.int (k1:Nat)) (V.int (k2:Nat)))=decide (k1=k2):=by
     rw[yE (by decide)];unfold eqV;rw[YQ,Yq];simp only[Ye];lk
    rw[e];apply qJ (fun hc=>?_) fun hc=>?_
    .ext;show qn c ab.1 ab.2 _ (out R) hD ad (.inl O) (by rw[e1,e2,yk hc])
    .show⟨rfl,⟨_,_,rfl⟩,fun cd h=>?_⟩;rw[yH,I] at h;rcases yx.mp h with h | h
     .show U cd h
     .rw [yv.mp h,e1,e2];show fun z=>hc (yD (ym z))
   .obtain⟨rfl,⟨v,x,rfl⟩,U⟩:=g;rw[ya,Y.2.len,yO] at U;apply qy d c _ (out R) hd hY hD ad fun a b k=>k.elim (fun z=>U _ z) fun z=>Yd (U _ z)
theorem KL:FnScope ["_law_web","_law_door","_law_found","e"] ["_law_web","_law_door"] (qh qaK):=fS
theorem u9:FnScope ["_law_ring"] ["_law_ring"] (qh qaL):=fS
theorem qdm{i j:Int}{Q:VK}(q:Q (.bl (decide (i=j))) H):qfi K (.int i) (.int j) H Q:=.inl (.inl (.inl ⟨rfl,rfl,by
 have e:(if false=true then !eqV (V.int i) (V.int j) else eqV (V.int i) (V.int j))=decide (i=j):=by
  rw[yE (by decide)];unfold eqV;rw[YQ,Yq];show Ye
 rw[e];show q⟩))
def DrT(ss:LS)(m:Str->Option (LS))(H H':Hp)(a:Int)(t:Addr):Prop:=(a=0/\∃ l1 l2,H' t=some (.tup [.ref l1,.ref l2])/\H l1=none/\H l2=none/\l1≠l2/\H' l1=some (.lst ((ss.filter fun s=>decide (sdP m s=0)).map V.str))/\H' l2=some (.lst ((ss.filter fun s=>!decide (sdP m s=0)).map V.str)))\/(a≠0/\∃ b c,H' t=some (.tup [b,c]))
theorem DrT.same{a:Int}{t:Addr}(h:DrT ss m H H' a t)(s:L2.Same H' H2):DrT ss m H H2 a t:=by
 rcases h with⟨h,l1,l2,h1,b,c,d,e,f⟩ | ⟨h,g,i,h1⟩
 .show .inl ⟨h,l1,l2,s _ _ h1,b,c,d,s _ _ e,s _ _ f⟩
 .show .inr ⟨h,g,i,s _ _ h1⟩
inductive spSpo(vs:List V)(H:Hp)(Q:VK)(E:XK):Prop|mk (l:Addr) (xs:List V) (_:vs=[.ref l]) (_:H l=some (.lst xs)) (_:xs.length<=900) (_:Q .non (upd H l (.lst (xs++[.str ""]))))
inductive spAsk(cw:Addr)(vs:List V)(H:Hp)(Q:VK)(E:XK):Prop|mk (x:Addr) (ss:LS) (ns:LN) (tps:LP) (door:Int) (_:vs=[.ref x,.int door]) (_:Wt cw H x ss ns tps) (_:(∀(m:Str->Option (LS)) (t0 t:Addr) (H':Hp),L2.Same H H'->WyC (tA tps) ss m->(∀ s∈ss,m s≠none)->(∀ a b,tA tps a b->sdP m a≠sdP m b)->H' t0=some (.tup [.str "told",.ref t])->DrT ss m H H' door t->Q (.ref t0) H')) (_:(∀(m:Str->Option (LS)) (a b:Str) (t0 l:Addr) (ring:LS) (H':Hp),L2.Same H H'->WyC (tA tps) ss m->(∀ s∈ss,m s≠none)->tA tps a b->sdP m a=sdP m b->OddR (tA tps) ss ring->H l=none->H' l=some (.lst (ring.map V.str))->H' t0=some (.tup [.str "odd",.ref l])->Q (.ref t0) H'))
theorem ok_spo(F:Fun K "_law_spoil" "_law_spoil" qaL f fd)(T:Txt K mg cc cw):FnOk P w K mg base CX0 1 f fd ["_law_ring"] spSpo:=by
 show F.ok u9 fun _ _ _ _ H vs Q E a h=>?_
 .obtain⟨l,xs,rfl,hl,b,q⟩:=h;show⟨_,(qe (qQ (qby (K:=K) rfl yV Yi Yj je (pv 0) (qa jH qd)))),?_⟩;apply⟨.inl ⟨rfl,_,SqL.of hl⟩,?_⟩;apply⟨l,xs,_,rfl,rfl,hl,qi (by lk),q⟩
theorem ok_ask(F:Fun K "_law_asked" "_law_asked" qaK f fd)(T:Txt K mg cc cw)(ae:W.mroIn K (cc 0) (.ref (cc 0))=some true)(ad:W.kitOne K (.ref (cc 0)) (.ref (cc 1))=some true)(K8:DefOk P w K mg base (CX1 P w) 9 "sides_of" ["web"] (spSd cc cw))(ub:DefOk P w K mg base (CX1 P w) 17 "greatest_by_sides" ["web"] (spGs cc cw)):FnOk P w K mg base CX0 18 f fd ["_law_web","_law_door"] (spAsk cw):=by
 show F.ok KL fun _ _ _ s H vs Q E hr h=>?_
 .obtain⟨x,ss,ns,tps,r,rfl,A,qy,qn⟩:=h;have hu:=ze hr;show⟨_,(qc (qm (i:=2) KL.nd rfl (yP rfl) zk)
 (qc (ps_try rfl rfl rfl qq)
 (qe (qo (jS (qa jH (qa (pv 2) qd))))))),?_⟩
  apply⟨fun σ c I H'=>∃(m:Str->Option (LS)) (a b:Str) (l q:Addr) (ring:LS),c=.ref (cc 0)/\I=some q/\L2.Same H H'/\WyC (tA tps) ss m/\(∀ s∈ss,m s≠none)/\tA tps a b/\sdP m a=sdP m b/\OddR (tA tps) ss ring/\H l=none/\H' l=some (.lst (ring.map V.str))/\H' q=some (.xd [(qeu 0,.ref l)])/\σ=[some (.ref x),some (.int r),some .non,none],_,fun pn xe qci=>(qe (qM (qj (zG (K:=K) rfl hu) (pv 1) qg (qw _)) (qe (qm (i:=2) KL.nd rfl (yP rfl) (qcC K8 (hmR hr) qci (qa (pv 0) qd)))) (qe (qm (i:=2) KL.nd rfl (yP rfl) (qcC ub (hmR hr) qci (qa (pv 0) qd)))))),?_,fun a C af ag H' hE Y=>?_⟩
  .ext;show qdm ?_;apply qJ (fun L=>?_) fun L=>?_
   .ext;show⟨x,ss,ns,tps,rfl,A,fun m t l1 l2 H1 G y e p J h1 u aa e1 e2=>?_,fun m a b l dx ring H' h1 u M N O R S U X=>⟨m,a,b,l,dx,ring,rfl,rfl,h1,u,M,N,O,R,S,U,X,rfl⟩⟩;apply⟨by show 2<=sizeLine;decide,fun n g=>?_⟩;have j:=qC (Sr H1) (o:=.tup [.str "told",.ref t]) g;show qy m n t _ (G.trans j) y e p qb (DrT.same (.inl ⟨yk L,l1,l2,J,h1,u,aa,e1,e2⟩) j)
   .ext;show⟨x,ss,ns,tps,rfl,A,fun m t v1 v2 H1 G y e p J=>?_,fun m a b l dx ring H' h1 u M N O R S U X=>⟨m,a,b,l,dx,ring,rfl,rfl,h1,u,M,N,O,R,S,U,X,rfl⟩⟩;apply⟨by show 2<=sizeLine;decide,fun n g=>?_⟩;have j:=qC (Sr H1) (o:=.tup [.str "told",.ref t]) g;show qy m n t _ (G.trans j) y e p qb (DrT.same (.inr ⟨fun z=>L (yD z),v1,v2,J⟩) j)
  .obtain⟨m,a1,b1,l,q,ring,hc,rfl,G,y,e,D,ac,hR,Z,hl,hy,rfl⟩:=hE;cases hc;show⟨_,(ph_as (K:=K) rfl KL.nd (i:=3) rfl rfl rfl T.m_Odd (qc (qM (PW.pt (qar (jm (qX (qr (qaA (K:=K) rfl) rfl T.b_isinstance YR (qa (pv 3) (qa (qdo (v:=.ref (cc 1)) rfl T.m_OnceError rfl) qd))))) (qaj (jm (qX (qr (qaA (K:=K) rfl) rfl T.b_isinstance YR (qa (pv 3) (qa (j3 (v:=.ty "ValueError") rfl T.b_ValueError zO rfl) qd)))))))) (qe (qo (jS (qa jH (qa zk qd))))) qq)
 (qe (qo (jS (qa jH (qa (qB (K:=K) rfl (pv 3) rfl) qd)))))) ph_nil),?_⟩
   show⟨true,ae,T.xat 0 (by decide),T.xat 0 (by decide),zA ?_⟩;ext;have B:IsX H' a (cc 0) (some q):=.inr Y;have tx:TyX K H' (.ref a) (.ref (cc 0)):=.inr ⟨a,cc 0,some q,rfl,rfl,B,T.xat 0 (by decide),fun d z=>by cases z;show⟨_,hy⟩⟩;show qbL tx rfl ad ?_;apply yq ?_;apply qbL tx rfl (T.kitV 0 (by decide)) ?_;apply yq ?_;apply .inr ⟨a,cc 0,q,_,.ref l,rfl,B,T.xat 0 (by decide),T.na 0 (by decide),hy,rfl,?_⟩;apply⟨by show 2<=sizeLine;decide,fun n g=>?_⟩;have j:=qC (Sr H') (o:=.tup [.str "odd",.ref l]) g;have e0:upd H' n (.tup [.str "odd",.ref l]) n=some (.tup [.str "odd",.ref l]):=qb;generalize upd H' n (.tup [.str "odd",.ref l])=H3 at j e0;apply qn m a1 b1 n l ring _ (G.trans j) y e D ac hR Z (j _ _ hl) e0
theorem K0:FnScope ["_law_names_here","_law_ties","_law_ring","_law_k"] ["_law_names_here","_law_ties","_law_ring"] (qh jQ):=fS
theorem qda{l a:Addr}{Q:VK}(h:PL H l ts tps)(w:H a=some (.tup [.str s,.str t]))(q:Q (.bl (!decide ((s,t)∈tps))) H):qdC K true (.ref a) (.ref l) H Q:=by
 have z:=qfn (K:=K) (Q:=fun v H'=>v=.bl (decide ((s,t)∈tps))/\H'=H) h w ⟨rfl,rfl⟩;rcases z with⟨p,xs,d,_,c,_⟩ | ⟨p,o,e,g,c,_⟩ | ⟨p,xs,e,n,d,c,f,i,j,_⟩
 .cases c
 .cases e;rcases g with⟨kvs,k,e | ⟨x,e⟩,_⟩ | ⟨kvs,k,b,e | ⟨x,e⟩,_⟩<;>(rw[h.1] at e;cases e)
 .show .inr (.inr ⟨p,xs,e,n,d,c,f,i,?_⟩)
  have m:xs.any e=decide ((s,t)∈tps):=by
   have:=j;rw[yE (by decide)] at this;cases r:xs.any e<;>cases u:decide ((s,t)∈tps)<;>rw[r,u] at this<;>first | rfl | (cases this)
  rw[yG rfl,m];show q
theorem str_nin{n:Addr}{Q:VK}(a:H n=some (.lst (ss.map V.str)))(q:Q (.bl (!decide (z∈ss))) H):qdC K true (.str z) (.ref n) H Q:=
 .inl ⟨n,_,rfl,.inl (.of a),rfl,Ys.mpr fun x b=>by(obtain⟨s,_,rfl⟩:=YH.mp b;rfl),by rw[yG rfl,qbN];show q⟩
theorem atI_lastV{c:V}(h:xs≠[])(e:xs[xs.length-1]?=some c):atI xs (-1)=some c:=by
 have:0<xs.length:=xi.mpr h;unfold atI
 have a:ixN xs.length (-1)=some (xs.length-1):=by
  unfold ixN;rw[yE (by decide),yG (by lk)]
  congr 1
  lk
 rw[a];show e
inductive spOr(vs:List V)(H:Hp)(Q:VK)(E:XK):Prop|mk (n tl l:Addr) (ss ring:LS) (ts:LQ) (tps:LP) (_:vs=[.ref n,.ref tl,.ref l]) (_:H n=some (.lst (ss.map V.str))) (_:PL H tl ts tps) (_:H l=some (.lst (ring.map V.str))) (_:OddR (tA tps) ss ring) (_:ring.length<=14) (_:∀ H',L2.Same H H'->Q (.bl true) H')
theorem ok_or(F:Fun K "_law_is_odd_ring" "_law_is_odd_ring" jQ f fd)(T:Txt K mg cc cw):FnOk P w K mg base CX0 1 f fd ["_law_names_here","_law_ties","_law_ring"] spOr:=by
 show F.ok K0 fun _ _ _ _ H vs Q E hr h=>?_
 .obtain⟨n,tl,l,ss,ring,ts,tps,rfl,hn,hP,hl,m,aa,q⟩:=h;have b:=ze hr;have h3:=m.three;have ac:=m.odd;show⟨_,(qc (qM (PW.pt (qar (jm (qX (qr (qaA (K:=K) rfl) rfl T.b_isinstance YR (qa (pv 2) (qa (j3 (v:=.ty "list") rfl T.b_list Xz rfl) qd))))) (qar (qj qdc (qr (zj (K:=K) rfl) rfl T.b_len YS (qa (pv 2) qd)) qg (qw _)) (qar (qj (zG (K:=K) rfl b) (qE zw (qr (zj (K:=K) rfl) rfl T.b_len YS (qa (pv 2) qd)) qg) qg (qw _)) (qaj (qj (qaB (K:=K) rfl b) (qr (k_lenT) rfl T.b_len YS (qa (qat (k_setS (K:=K) rfl rfl) rfl T.b_set boot_set (qa (pv 2) qd)) qd)) (qr (zj (K:=K) rfl) rfl T.b_len YS (qa (pv 2) qd)) (qw _))))))) (qe (qo zi)) qq)
 (qc (jo yZ rfl (zv rfl T.b_range (qa (qr (zj (K:=K) rfl) rfl T.b_len YS (qa (pv 2) qd)) qd)) (qk (i:=3) K0.nd rfl (yP rfl))
 (qc (qM (qj (jC (K:=K) rfl b) (qt (qu (K:=K) rfl b) (pv 2) (pv 3) (fun _ _=>rfl)) (pv 0) (by with_unfolding_all rfl)) (qe (qo zi)) qq)
 (qe (qM (PW.pt (qaS (qj (jC (K:=K) rfl b) (jS (qa (qt (qu (K:=K) rfl b) (pv 2) (pv 3) (fun _ _=>rfl)) (qa (qt (qu (K:=K) rfl b) (pv 2) (qE qbq (pv 3) qg) (fun _ _=>rfl)) qd))) (pv 1) (by with_unfolding_all rfl)) (qal (qj (jC (K:=K) rfl b) (jS (qa (qt (qu (K:=K) rfl b) (pv 2) (qE qbq (pv 3) qg) (fun _ _=>rfl)) (qa (qt (qu (K:=K) rfl b) (pv 2) (pv 3) (fun _ _=>rfl)) qd))) (pv 1) (by with_unfolding_all rfl))))) (qe (qo zi)) qq))))
 (qe (qo zi)))),?_⟩
  apply qbL (.inl (.lst hl)) rfl (qao K "list" (by simp) "list" (by simp)) ?_;apply yq ?_;apply qan hl ?_;rw[ya];apply qJ (fun h=>by simp at h;lk) fun _=>?_;apply qan hl ?_;rw[ya];apply⟨_,_,rfl,rfl,by show(0:Int)<2;decide,?_⟩;apply qdm ?_;rw[yl (show ¬ ((ring.length:Int) % 2=0) by lk)];apply yq ?_;apply⟨l,ring,rfl,SqL.of hl,m.nd,by lk,fun c B=>?_⟩;have g:=qC (Sr H) (o:=qeN c ring) B;have W:upd H c (qeN c ring) c=some (qeN c ring):=qb;generalize upd H c (qeN c ring)=H1 at g W;apply⟨c,ring,rfl,W,?_⟩;apply qan (g _ _ hl) ?_;rw[ya];show .inl ⟨rfl,rfl,?_⟩;have e0:(if true=true then !eqV (V.int (ring.length:Int)) (V.int (ring.length:Int)) else eqV (V.int (ring.length:Int)) (V.int (ring.length:Int)))=false:=by simp[eqV]
  rw[e0];apply yq ?_;apply qan (g _ _ hl) ?_;rw[ya];apply⟨_,rfl,by lk,by lk,?_⟩;show qa5 (fun i S J=>L2.Same H1 J/\∃ R,S=[some (.ref n),some (.ref tl),some (.ref l),R]) ⟨L2.Same.refl H1,_,rfl⟩ (fun i S J hi A=>?_) fun S J A=>?_
  .obtain⟨j,R,rfl⟩:=A;have z:i<ring.length:=by lk
   have s:ring[i]?=some ring[i]:=yb z;generalize ring[i]=x at s;have G:=m.inn x (ye s);have L:atI (ring.map V.str) (0+(i:Int))=some (.str x):=by rw[show(0:Int)+(i:Int)=(i:Int) by lk];show qx (by rw[yd,s];rfl)
   obtain⟨y,Z,I⟩:∃ y,atI (ring.map V.str) (0+(i:Int)-1)=some (.str y)/\tA tps x y:=by
    by_cases h0:i=0
    .subst h0;have r:ring[ring.length-1]?=some ring[ring.length-1]:=yb (by lk);show⟨ring[ring.length-1],?_,m.close x _ s (by rw[YU];show r)⟩;show atI_lastV (fun e=>?_) (by rw[ya,yd,r];rfl);have:=congrArg List.length e;rw[ya,Ym] at this;lk
    .have r:ring[i-1]?=some ring[i-1]:=yb (by lk);show⟨ring[i-1],?_,(m.tie (i-1) _ x r (by rw[show i-1+1=i by lk];show s)).symm⟩;rw[show(0:Int)+(i:Int)-1=((i-1:Nat):Int) by lk];show qx (by rw[yd,r];rfl)
   have a:=j _ _ (g _ _ hl);have t:=hP.same (g.trans j);apply .inl (zX a L ?_);apply str_nin (j _ _ (g _ _ hn)) ?_;rw[yD G];apply yq ?_;apply .inl (zX a L ?_);apply .inl (zX a Z ?_);apply⟨by show 2<=sizeLine;decide,fun N C=>?_⟩;have p:=qC (Sr J) (o:=.tup [.str x,.str y]) C;have X:upd J N (.tup [.str x,.str y]) N=some (.tup [.str x,.str y]):=qb;generalize upd J N (.tup [.str x,.str y])=U at p X;apply qda (t.same p) X ?_;ext;by_cases d:(x,y)∈tps
   .show qJ (fun h=>by simp[d] at h) fun _=>?_;show yq ?_;show⟨j.trans p,_,rfl⟩
   .have u:(y,x)∈tps:=I.resolve_left d;show qJ (fun _=>?_) fun h=>absurd (by simp[d]) h;apply .inl (zX (p _ _ a) Z ?_);apply .inl (zX (p _ _ a) L ?_);apply⟨by show 2<=sizeLine;decide,fun O D=>?_⟩;have M:=qC p (o:=.tup [.str y,.str x]) D;have Y:upd U O (.tup [.str y,.str x]) O=some (.tup [.str y,.str x]):=qb;generalize upd U O (.tup [.str y,.str x])=J3 at M Y;apply qda (t.same M) Y ?_;rw[yD u];apply yq ?_;show⟨j.trans M,_,rfl⟩
  .obtain⟨j,R,rfl⟩:=A;apply q J (g.trans j)
theorem Kr:FnScope ["_law_box_here","_law_names_here","_law_first","_law_mixed","_law_ties","_law_k","_law_one","_law_others","_law_other"] ["_law_box_here","_law_names_here","_law_first","_law_mixed","_law_ties"] (qh jv):=fS
theorem qdY{a b:Addr}(d:H a=some (.lst (ss.map V.str)))(hb:H b=some (.lst (rs.map V.str))):EqT K H 1 a b (decide (ss=rs)):=by
 by_cases hl:ss.length=rs.length
 .have z:=EqT.lst (K:=K) (H:=H) (n:=0) (e:=fun j=>eqV (.str (ss.getD j "")) (.str (rs.getD j ""))) (SqL.of d) (SqL.of hb) (by rw[ya,ya];show hl) fun j x y h1 c=>by
   rw[yd] at h1 c;obtain⟨u,f,rfl⟩:=yn.mp h1;obtain⟨v,hv,rfl⟩:=yn.mp c;rw[Yk,Yk,f,hv];show .flat rfl rfl
  have e:(List.range (ss.map V.str).length).all (fun j=>eqV (.str (ss.getD j "")) (.str (rs.getD j "")))=decide (ss=rs):=by
   rw[YQ,Ys,Yq];constructor
   .intro h;show List.ext_getElem hl fun i h1 c=>?_;have:=h i (xV.mpr (by rw[ya];show h1));rw[qbS,Yk,Yk,yb h1,yb c] at this;show yk this
   .rintro rfl j _;rw[qbS];show yD rfl
  rw[e] at z;show z
 .rw [yl (fun e=>hl (by rw[e]))];show .lstL (SqL.of d) (SqL.of hb) (by rw[ya,ya];show hl)
structure DT(ss:LS)(tps:LP):Prop where
 few:tps.length<=30
 ok:∀ ab∈tps,ab.1∈ss/\ab.2∈ss/\ab.1≠ab.2
 nd:tps.Nodup
 one:∀ ab∈tps,(ab.2,ab.1)∉tps
theorem DT.nil(ss:LS):DT ss []:=⟨YW _,(fun _ h=>by cases h),.nil,(fun _ h=>by cases h)⟩
theorem DT.snoc(h:DT ss tps)(l:s∈ss)(m:t∈ss)(d:s≠t)(n:(s,t)∉tps)(f:(t,s)∉tps)(hl:tps.length<30):DT ss (tps++[(s,t)]):=by
 show⟨by rw[yt];simp;lk,fun ab c=>?_,yX.mpr ⟨h.nd,XJ _ _,fun a i b hb e=>?_⟩,fun ab c j=>?_⟩
 .rcases yx.mp c with z | z
  .show h.ok ab z
  .rw [yv.mp z];show⟨l,m,d⟩
 .rw [yv.mp hb] at e;subst e;show n i
 .rcases yx.mp c with z | z<;>rcases yx.mp j with y | y
  .show h.one ab z y
  .have e:=yv.mp y;have g:ab=(t,s):=X6 (congrArg Prod.snd e) (congrArg Prod.fst e);rw[g] at z;show f z
  .rw [yv.mp z] at y;show f y
  .rw [yv.mp z] at y;have e:=yv.mp y;show d (congrArg Prod.snd e)
def qdZ(p l:Addr)(H H':Hp):Prop:=∀ c o,c≠p->c≠l->H c=some o->H' c=some o
inductive spMt6(vs:List V)(H:Hp)(Q:VK)(E:XK):Prop|mk (p n f l:Addr) (mx:Bool) (ss fs:LS) (ts:LQ) (tps:LP) (N:Nat) (_:vs=[.ref p,.ref n,.ref f,.bl mx,.ref l]) (_:Pn (N+16) H p) (_:n≠p) (_:l≠p) (_:n≠l) (_:f≠p) (_:f≠l) (_:H n=some (.lst (ss.map V.str))) (_:H f=some (.lst (fs.map V.str))) (_:NOk ss) (_:1<ss.length) (_:PL H l ts tps) (_:DT ss tps) (_:∀(ts':LQ) (tps':LP) (H':Hp),qdZ p l H H'->PL H' l ts' tps'->DT ss tps'->Q .non H')
theorem vNeB{a b:Bool}{Q:VK}(q:Q (.bl (!(a==b))) H):qeL K true (.bl a) (.bl b) H Q:=.inl ⟨rfl,rfl,by rw[yG rfl];show q⟩
theorem PL.but6{l:Addr}{N:Nat}(h:PL J l ts tps)(d:Pn N J p)(a:l≠p)(b:But p J J'):PL J' l ts tps:=
 ⟨b _ _ a h.1,h.2.mono fun t ab z=>b _ _ (fun e=>by obtain⟨u,v,w,c,_⟩:=d;rw[e,c] at z;cases z) z⟩
theorem ok_mt6(F:Fun K "_law_more_ties" "_law_more_ties" jv f fd)(T:Txt K mg cc cw)(Ki:DefOk P w K mg base CX0 1 "_law_take" ["_law_box_here","_law_many"] spTkN):FnOk P w K mg base CX0 2 f fd ["_law_box_here","_law_names_here","_law_first","_law_mixed","_law_ties"] spMt6:=by
 show F.ok Kr fun _ _ _ _ H vs Q E hr h=>?_
 .obtain⟨p,n,f',l,mx,ss,fs,ts,tps,N,rfl,hB,ak,S,bt,av,bn,hn,hf,hO,ce,hP,hD,q⟩:=h;have Z:=ze hr;have ca:=hO.few;obtain⟨TC103,ai⟩:∃ t0:TS,t0=fun D σ J=>∃(g:Addr) (L:LS) (s':Str) (i:Int) (M:Nat) (m:LQ) (j:LP) (C:Option V),σ=[some (.ref p),some (.ref n),some (.ref f'),some (.bl mx),some (.ref l),some (.int i),some (.str s'),some (.ref g),C]/\qdZ p l H J/\Pn (M+1) J p/\PL J l m j/\DT ss j/\J g=some (.lst (L.map V.str))/\s'∈ss/\L.length<=14/\(∀ x∈L,x∈ss/\x≠s') /\
   ∀(J':Hp) (m:LQ) (j:LP) (C:Option V),qdZ p l H J'->Pn M J' p->PL J' l m j->DT ss j->D.nx [some (.ref p),some (.ref n),some (.ref f'),some (.bl mx),some (.ref l),some (.int i),some (.str s'),some (.ref g),C] J':=⟨_,rfl⟩
  show⟨_,(qe (jo yZ rfl (zv rfl T.b_range (qa (qt (qu (K:=K) rfl Z) (jg (qa qg (qa qg (qa qg (qa qg qd))))) (qp Ki (hmR hr) qz (qa (pv 0) (qa qg qd))) (fun _ _=>rfl)) qd)) (qk (i:=5) Kr.nd rfl (yP rfl))
 (qc (qm (i:=6) Kr.nd rfl (Xu rfl) (qt (qu (K:=K) rfl Z) (pv 1) (qp Ki (hmR hr) qz (qa (pv 0) (qa (qr (zj (K:=K) rfl) rfl T.b_len YS (qa (pv 1) qd)) qd))) (fun _ _=>rfl)))
 (qc (zN (sc:=qh jv) (XN:=["_law_box_here","_law_names_here","_law_first","_law_mixed","_law_ties","_law_k","_law_one","_law_others","_law_other"]) ["_law_name","_law_first","_law_one"] 1 [2,6] rfl rfl rfl (by room) rfl (by room) (i:=7) Kr.nd rfl rfl
  (qL (K:=K) rfl (pv 1)) (fun _ _ _ _=>(qk (i:=0) (show(["_law_name","_law_first","_law_one"]:LS).Nodup by room) rfl (yP rfl))) qW
  (fun _ _ _ _=>(ji (qj (qaB (K:=K) rfl Z) (jq (zt (K:=K) rfl Z) (pv 0) (pv 1) (by with_unfolding_all rfl)) (jq (zt (K:=K) rfl Z) (pv 2) (pv 1) (by with_unfolding_all rfl)) (qw _))))
  (fun _ _ _ _=>(pv 0)))
 (qc (qM (PW.pt (qaS (qX (pv 3)) (qal (qj (zG (K:=K) rfl Z) (qp Ki (hmR hr) qz (qa (pv 0) (qa qg qd))) qg (qw _))))) (qe (zN (sc:=qh jv) (XN:=["_law_box_here","_law_names_here","_law_first","_law_mixed","_law_ties","_law_k","_law_one","_law_others","_law_other"]) ["_law_name","_law_one"] 1 [6] rfl rfl rfl (by room) rfl (by room) (i:=7) Kr.nd rfl rfl
  (qL (K:=K) rfl (pv 1)) (fun _ _ _ _=>(qk (i:=0) (show(["_law_name","_law_one"]:LS).Nodup by room) rfl (yP rfl))) qW
  (fun _ _ _ _=>(ji (qj (qaB (K:=K) rfl Z) (pv 0) (pv 1) (qw _))))
  (fun _ _ _ _=>(pv 0)))) qq)
 (qbj TC103 (qe (qM (qj (qaB (K:=K) rfl Z) (pv 7) (jg qd) (qw _)) (qc (qm (i:=8) Kr.nd rfl (yP rfl) (qt (qu (K:=K) rfl Z) (pv 7) (qp Ki (hmR hr) qz (qa (pv 0) (qa (qr (zj (K:=K) rfl) rfl T.b_len YS (qa (pv 7) qd)) qd))) (fun _ _=>rfl)))
 (qe (qM (PW.pt (qaS (qj (jC (K:=K) rfl Z) (jS (qa (pv 6) (qa (pv 8) qd))) (pv 4) (by with_unfolding_all rfl)) (qaS (qj (jC (K:=K) rfl Z) (jS (qa (pv 8) (qa (pv 6) qd))) (pv 4) (by with_unfolding_all rfl)) (qal (qj qdc (qr (zj (K:=K) rfl) rfl T.b_len YS (qa (pv 4) qd)) qg (qw _)))))) (qe (qQ (qby (K:=K) rfl yV Yi Yj je (pv 4) (qa (jS (qa (pv 6) (qa (pv 8) qd))) qd)))) qq))) qq)) ?cut103)))))),?_⟩
  case cut103 =>
   intro D σ J h;rw[ai] at h;obtain⟨g,L,s',i,M,m,j,C,rfl,bJ,O,X,t,hg,ae,Y,ac,nx⟩:=h
   have bp:g≠p:=fun e=>by
    obtain⟨u,v,w,e2,_⟩:=O;rw[e,e2] at hg;cases L<;>cases hg
   apply⟨by show 0<=sizeLine;decide,fun z hz=>?_⟩;have s1:=qC (Sr J) (o:=.lst ([]:List V)) hz;have ez:upd J z (.lst ([]:List V)) z=some (.lst (([]:LS).map V.str)):=qb;have hB1:=O.new (o:=.lst ([]:List V)) hz;have R:=X.same s1;have b1:qdZ p l H (upd J z (.lst ([]:List V))):=fun c o h1 s e=>s1 c o (bJ c o h1 s e);generalize upd J z (.lst ([]:List V))=J1 at s1 ez hB1 R b1;have aj:=s1 _ _ hg;show .inr (.inl ⟨g,z,_,1,rfl,rfl,by decide,qdY aj ez,?_⟩);apply qJ (fun h1=>?_) (fun h1=>?_)
   .have cd:0<L.length:=xi.mpr fun e=>by rw[yD e] at h1;cases h1
    apply qan aj ?_;rw[ya];apply⟨p,L.length,M,rfl,hB1,by lk,by lk,fun d2 I as b3 W=>?_⟩;obtain⟨t',bb⟩:∃ t',L[d2]?=some t':=⟨_,yb as⟩;show .inl (zX (b3 _ _ bp aj) (v:=.str t') (qx (by rw[yd,bb];rfl)) ?_);obtain⟨bu,bv⟩:=ac t' (ye bb);have A:PL I l m j:=R.but6 hB1 S b3;have ap:qdZ p l H I:=fun c o h1 s e=>b3 _ _ h1 (b1 c o h1 s e);apply⟨by show 2<=sizeLine;decide,fun t1 bc=>?_⟩;have s4:=qC (Sr I) (o:=.tup [.str s',.str t']) bc;have e4:upd I t1 (.tup [.str s',.str t']) t1=some (.tup [.str s',.str t']):=qb;generalize upd I t1 (.tup [.str s',.str t'])=J4 at s4 e4;apply qda (A.same s4) e4 ?_
    have ag:∀(G5:Hp),L2.Same I G5->D.nx [some (.ref p),some (.ref n),some (.ref f'),some (.bl mx),some (.ref l),some (.int i),some (.str s'),some (.ref g),some (.str t')] G5:=fun G5 s5 =>
     nx G5 m j _ (fun c o h1 s e=>s5 _ _ (ap c o h1 s e)) (W.same s5) (A.same s5) t
    apply qJ (fun h1=>?_) (fun h1=>?_)
    .ext;show⟨by show 2<=sizeLine;decide,fun t2 bd=>?_⟩;have s5:=qC (Sr J4) (o:=.tup [.str t',.str s']) bd;have e5:upd J4 t2 (.tup [.str t',.str s']) t2=some (.tup [.str t',.str s']):=qb;generalize upd J4 t2 (.tup [.str t',.str s'])=J5 at s5 e5;have U:=s4.trans s5;apply qda (A.same U) e5 ?_;apply qJ (fun s=>?_) (fun s=>?_)
     .ext;show qan ((A.same U).1) ?_;rw[ya,A.2.len];apply qJ (fun h3=>?_) (fun h3=>?_)
      .have bg:j.length<30:=by have:=yk h3;lk
       apply⟨.inl ⟨rfl,_,.of (A.same U).1⟩,?_⟩;apply⟨by show 2<=sizeLine;decide,fun t3 bw=>?_⟩;have s6:=qC U (o:=.tup [.str s',.str t']) bw;have e6:upd J5 t3 (.tup [.str s',.str t']) t3=some (.tup [.str s',.str t']):=qb;generalize upd J5 t3 (.tup [.str s',.str t'])=J6 at s6 e6;have ah:=A.same s6;apply⟨l,_,_,rfl,rfl,ah.1,by rw[ya,A.2.len];show qi (by lk),?_⟩;have be:∀{c:Addr} {ab:Str×Str},J6 c=some (.tup [.str ab.1,.str ab.2])->c≠l:=fun e z=>by rw[z,ah.1] at e;cases e
       have n1:(s',t')∉j:=fun z=>by rw[yD z] at h1;cases h1
       have n2:(t',s')∉j:=fun z=>by rw[yD z] at s;cases s
       show nx _ (m++[t3]) (j++[(s',t')]) _ (fun c o bi ar e=>by rw[qf ar];show s6 _ _ (ap c o bi ar e)) ?_ ⟨by rw[qb,yC];rfl,?_⟩ (t.snoc ae bu (Yd bv) n1 n2 bg)
       .obtain⟨a1,a2,a3,a4,a5⟩:=W.same s6;show⟨a1,a2,a3,by rw[qf (Yd S)];show a4,a5⟩
       .show All2.snoc (ah.2.mono fun c ab z=>by rw[qf (be z)];show z) ?_;rw[qf (be (ab:=(s',t')) e6)];show e6
      .show ag J5 U
     .show yq ?_;apply ag J5 U
    .show yq ?_;apply ag J4 s4
   .ext;show nx J1 m j C b1 (hB1.mono (xC M)) R t
  apply⟨by show 4<=sizeLine;decide,fun m2 ax=>?_⟩;have br:=hB.apart ax;have s1:=qC (Sr H) (o:=.lst [.int 1,.int 1,.int 2,.int 5]) ax;have em:upd H m2 (.lst [.int 1,.int 1,.int 2,.int 5]) m2=some (.lst [.int 1,.int 1,.int 2,.int 5]):=qb;generalize upd H m2 (.lst [.int 1,.int 1,.int 2,.int 5])=H1 at s1 em;apply⟨p,4,N+15,rfl,hB.same s1,by decide,by decide,fun d H2 hd b2 bh=>?_⟩
  obtain⟨B,bz,cb⟩:∃ B:Nat,[V.int 1,.int 1,.int 2,.int 5][d]?=some (.int (B:Int))/\B<=5:=by
   have h4:d=0\/d=1\/d=2\/d=3:=by lk
   rcases h4 with rfl | rfl | rfl | rfl
   .show⟨1,rfl,by decide⟩
   .show⟨1,rfl,by decide⟩
   .show⟨2,rfl,by decide⟩
   .show⟨5,rfl,by decide⟩
  show .inl (zX (b2 _ _ br em) (v:=.int (B:Int)) (qx bz) ?_);apply⟨(B:Int),rfl,by lk,by lk,?_⟩;rw[YB];have an:But p H H2:=fun c o hc e=>b2 c o hc (s1 c o e);show qa5 (lo:=0) (n:=B) (fun i σ J=>i<=B/\qdZ p l H J/\Pn (N+3*(B-i)) J p/\(∃ m j,PL J l m j/\DT ss j)/\∃ y5 y6 y7 C,σ=[some (.ref p),some (.ref n),some (.ref f'),some (.bl mx),some (.ref l),y5,y6,y7,C]) ⟨YW _,fun c o hc _ e=>an c o hc e,bh.mono (by lk),⟨ts,tps,hP.but6 hB S an,hD⟩,_,_,_,_,rfl⟩ (fun i σ J hi hp=>?_) fun σ J hp=>?_
  .obtain⟨_,bJ,O,⟨m,j,X,t⟩,y5,y6,y7,C,rfl⟩:=hp;have az:=bJ _ _ ak bt hn;have bm:=bJ _ _ av bn hf;apply qan az ?_;rw[ya];apply⟨p,ss.length,N+3*(B-i)-1,rfl,O.mono (by lk),by lk,by lk,fun d1 J1 bj b1 hB1=>?_⟩;obtain⟨s',ae⟩:∃ s',ss[d1]?=some s':=⟨_,yb bj⟩;have ad:=b1 _ _ ak az;have au:=b1 _ _ av bm;show .inl (zX ad (v:=.str s') (qx (by rw[yd,ae];rfl)) ?_);have bf:qdZ p l H J1:=fun c o h1 s e=>b1 _ _ h1 (bJ c o h1 s e);have R:PL J1 l m j:=X.but6 O S b1;have ba:=ye ae;have am:∀(J':Hp) (m:LQ) (j:LP) (y7 C:Option V),qdZ p l H J'->Pn (N+3*(B-i)-3) J' p->PL J' l m j->DT ss j->i+1<=B/\qdZ p l H J'/\Pn (N+3*(B-(i+1))) J' p/\(∃ m j,PL J' l m j/\DT ss j)/\∃ z5 z6 z7 z8,[some (V.ref p),some (V.ref n),some (V.ref f'),some (V.bl mx),some (V.ref l),some (V.int (0+(i:Int))),some (V.str s'),y7,C]=[some (V.ref p),some (V.ref n),some (V.ref f'),some (V.bl mx),some (V.ref l),z5,z6,z7,z8]:=fun J' m j y7 C h1 s h3 h4=>⟨hi,h1,s.mono (by lk),⟨m,j,h3,h4⟩,_,_,_,_,rfl⟩;apply .inl ⟨⟨_,.of ad⟩,qK (xs:=ss.map V.str) (fun i ys G=>G=J1/\ys=((ss.take i).filter fun x=>!(decide (x∈fs)==decide (s'∈fs))).map V.str) ⟨rfl,rfl⟩ (fun i ys G _ r=>by rw[r.1];show .of ad) (fun i y ys G hy r=>?_) fun ys G r=>?_⟩
   .obtain⟨rfl,rfl⟩:=r;rw[yd] at hy;obtain⟨x,hx,rfl⟩:=yn.mp hy;have bq:i<ss.length:=(yc.mp hx).1;have Y:((ss.take i).filter fun x=>!(decide (x∈fs)==decide (s'∈fs))).length<=14:=yi (yQ _ _) (by rw[yK];lk);rw[yH,hx,Yc];apply qbR au ?_;apply qbR au ?_;show vNeB ?_;show⟨_,rfl,qJ (fun ho=>?_) (fun ho=>?_)⟩
    .ext;show⟨by rw[ya];show qi (by lk),rfl,?_⟩;show _=List.map V.str (_++[x].filter _);rw[yL,yG ho,yC];rfl
    .show⟨rfl,?_⟩;show _=List.map V.str (_++[x].filter _);rw[yL,yE ho,Yw,Yb]
   .obtain⟨rfl,rfl⟩:=r;rw[show(ss.map V.str).length=ss.length from ya ..,yO];have Y:(ss.filter fun x=>!(decide (x∈fs)==decide (s'∈fs))).length<=14:=yi (yQ _ _) (by lk);have ac:∀ x∈ss.filter fun x=>!(decide (x∈fs)==decide (s'∈fs)),x∈ss/\x≠s':=fun x hx=>⟨(yp.mp hx).1,fun e=>by have:=(yp.mp hx).2;rw[e] at this;simp at this⟩;generalize (ss.filter fun x=>!(decide (x∈fs)==decide (s'∈fs)))=L at Y ac;show⟨by rw[ya];show yT (qi (by lk)),fun g hg=>?_⟩;have s3:=qC (Sr G) (o:=.lst (L.map V.str)) hg;have eg:upd G g (.lst (L.map V.str)) g=some (.lst (L.map V.str)):=qb;generalize upd G g (.lst (L.map V.str))=J2 at s3 eg;have ao:qdZ p l H J2:=fun c o h1 s e=>s3 _ _ (bf c o h1 s e)
    have stay:∀(D:Ends) (I:Hp),(∀(J':Hp) (m:LQ) (j:LP) (C:Option V),qdZ p l H J'->Pn (N+3*(B-i)-3) J' p->PL J' l m j->DT ss j->D.nx [some (.ref p),some (.ref n),some (.ref f'),some (.bl mx),some (.ref l),some (.int (0+(i:Int))),some (.str s'),some (.ref g),C] J')->But p J2 I->Pn (N+3*(B-i)-2) I p->TC103 D [some (.ref p),some (.ref n),some (.ref f'),some (.bl mx),some (.ref l),some (.int (0+(i:Int))),some (.str s'),some (.ref g),C] I:=fun D I nx b hb=>by
     rw[ai];show⟨g,L,s',_,N+3*(B-i)-3,m,j,_,rfl,fun c o h1 s e=>b _ _ h1 (ao c o h1 s e),hb.mono (by lk),(R.same s3).but6 (hB1.same s3) S b,t,b _ _ (hB1.apart hg) eg,ba,Y,ac,nx⟩
    apply qJ (fun h1=>?_) (fun h1=>?_)
    .ext;show⟨p,9,N+3*(B-i)-2,rfl,(hB1.same s3).mono (by lk),by decide,by decide,fun d2 I as b3 W=>?_⟩;apply qed ?_;apply qJ (fun s=>?_) (fun s=>?_)
     .have ay:=b3 _ _ ak (s3 _ _ ad);apply .inl ⟨⟨_,.of ay⟩,qK (xs:=ss.map V.str) (fun i ys G=>G=I/\ys=((ss.take i).filter fun x=>decide (x≠s')).map V.str) ⟨rfl,rfl⟩ (fun i ys G _ r=>by rw[r.1];show .of ay) (fun i y ys G hy r=>?_) fun ys G r=>?_⟩
      .obtain⟨rfl,rfl⟩:=r;rw[yd] at hy;obtain⟨x,hx,rfl⟩:=yn.mp hy;have bq:i<ss.length:=(yc.mp hx).1;have Y:((ss.take i).filter fun x=>decide (x≠s')).length<=14:=yi (yQ _ _) (by rw[yK];lk);rw[yH,hx,Yc];apply qf3 ?_;show⟨_,rfl,qJ (fun ho=>?_) (fun ho=>?_)⟩
       .ext;show⟨by rw[ya];show qi (by lk),rfl,?_⟩;have al:x≠s':=fun e=>by rw[e] at ho;simp at ho
        show _=List.map V.str (_++[x].filter _);rw[yL,yG (yD al),yC];rfl
       .show⟨rfl,?_⟩
        have al:x=s':=by
         cases e:decide (x=s') with
         | true=>show yk e
         | false=>rw[e] at ho;show absurd rfl ho
        show _=List.map V.str (_++[x].filter _);rw[yL,yE (by rw[al];simp),Yw,Yb]
      .obtain⟨rfl,rfl⟩:=r;rw[show(ss.map V.str).length=ss.length from ya ..,yO];have aw:(ss.filter fun x=>decide (x≠s')).length<=14:=yi (yQ _ _) (by lk);have af:∀ x∈ss.filter fun x=>decide (x≠s'),x∈ss/\x≠s':=fun x hx=>⟨(yp.mp hx).1,yk (yp.mp hx).2⟩;generalize (ss.filter fun x=>decide (x≠s'))=aa at aw af;show⟨by rw[ya];show yT (qi (by lk)),fun g4 bo=>?_⟩;have s4:=qC (Sr G) (o:=.lst (aa.map V.str)) bo;have aq:upd G g4 (.lst (aa.map V.str)) g4=some (.lst (aa.map V.str)):=qb;generalize upd G g4 (.lst (aa.map V.str))=J4 at s4 aq;rw[ai];show⟨g4,aa,s',_,N+3*(B-i)-3,m,j,_,rfl,fun c o h1 s e=>s4 _ _ (b3 _ _ h1 (ao c o h1 s e)),(W.same s4).mono (by lk),((R.same s3).but6 (hB1.same s3) S b3).same s4,t,aq,ba,aw,af,fun J' a b y c d e f=>am J' a b _ _ c d e f⟩
     .ext;show stay _ I (fun J' a b y c d e f=>am J' a b _ _ c d e f) b3 W
    .show yq ?_;apply stay _ _ (fun J' a b y c d e f=>am J' a b _ _ c d e f) (fun _ _ _ e=>e) ((hB1.same s3).mono (by lk))
  .obtain⟨_,bJ,O,⟨m,j,X,t⟩,y5,y6,y7,C,rfl⟩:=hp;show q m j J bJ X t
theorem Kw:FnScope ["_law_script","_law_most","_law_box_here","_law_names_here","_law_mixed","_law_first","_law_ties","_law_cell"] ["_law_script","_law_most"] (qh zT):=fS
inductive spSi6(K:W.Frag)(vs:List V)(H:Hp)(Q:VK)(E:XK):Prop|mk (a:Addr) (ns:LX) (_:vs=[.ref a,.int 14]) (_:SqL K H a (ns.map V.int)) (_:ns.length<=63) (_:∀(t n l:Addr) (ss:LS) (ts:LQ) (tps:LP) (H':Hp),L2.Same H H'->H' t=some (.tup [.ref n,.ref l])->H n=none->H l=none->n≠l->H' n=some (.lst (ss.map V.str))->NOk ss->PL H' l ts tps->DT ss tps->Q (.ref t) H')
theorem ok_si6(F:Fun K "_law_sided" "_law_sided" zT f fd)(T:Txt K mg cc cw)(ug:DefOk P w K mg base CX0 1 "_law_at" ["_law_script","_law_k"] (spCe K))(uY:DefOk P w K mg base CX0 1 "_law_box" ["_law_cell"] spPu)(Ki:DefOk P w K mg base CX0 1 "_law_take" ["_law_box_here","_law_many"] spTkN)
  (Ud:DefOk P w K mg base CX0 2 "_law_names" ["_law_box_here","_law_many"] spNmA) (uN:DefOk P w K mg base CX0 2 "_law_more_ties" ["_law_box_here","_law_names_here","_law_first","_law_mixed","_law_ties"] spMt6):FnOk P w K mg base CX0 3 f fd ["_law_script","_law_most"] (spSi6 K):=by
 show F.ok Kw fun _ _ _ _ H vs Q E r h=>?_
 .obtain⟨a,s,rfl,hS,bv,q⟩:=h;have hu:=ze r;show⟨_,(qc (qm (i:=2) Kw.nd rfl (Xu rfl) (qp uY (hmR r) qz (qa (qp ug (hmR r) qz (qa (pv 0) (qa qg qd))) qd)))
 (qc (qm (i:=3) Kw.nd rfl (yP rfl) (qp Ud (hmR r) qz (qa (pv 2) (qa (qp Ki (hmR r) qz (qa (pv 2) (qa (qt (qu (K:=K) rfl hu) (jg (qa qg (qa qg (qa qg (qa qg (qa (qE (j6 (K:=K) rfl) (pv 1) qg) qd)))))) (qp Ki (hmR r) qz (qa (pv 2) (qa qg qd))) (fun _ _=>rfl)) qd))) qd))))
 (qc (qm (i:=4) Kw.nd rfl (yP rfl) (jq (zG (K:=K) rfl hu) (qp Ki (hmR r) qz (qa (pv 2) (qa qg qd))) qg (qw _)))
 (qc (zN (sc:=qh zT) (XN:=["_law_script","_law_most","_law_box_here","_law_names_here","_law_mixed","_law_first","_law_ties","_law_cell"]) ["_law_name","_law_box_here"] 1 [2] rfl rfl rfl (by room) rfl (by room) (i:=5) Kw.nd rfl rfl
  (qL (K:=K) rfl (pv 3)) (fun _ _ _ _=>(qk (i:=0) (show(["_law_name","_law_box_here"]:LS).Nodup by room) rfl (yP rfl))) qW
  (fun _ _ _ _=>(ji (qj (zG (K:=K) rfl hu) (qp Ki (hmR r) qz (qa (pv 1) (qa qg qd))) qg (qw _))))
  (fun _ _ _ _=>(pv 0)))
 (qc (qm (i:=6) Kw.nd rfl (yP rfl) (jg qd))
 (qc (jo yZ rfl (qL (K:=K) rfl (qE (j6 (K:=K) rfl) (jt (qdj (K:=K) rfl) (pv 0) (jr qg) (jr qg)) (jg (qa (qp ug (hmR r) qz (qa (pv 0) (qa qg qd))) (qa (qp ug (hmR r) qz (qa (pv 0) (qa qg qd))) qd))))) (qk (i:=7) Kw.nd rfl (yP rfl))
 (qe (qM (qj qdd (qr (zj (K:=K) rfl) rfl T.b_len YS (qa (pv 3) qd)) qg (qw _)) (qe (qQ (qp uN (hmR r) qz (qa (qp uY (hmR r) qz (qa (pv 7) qd)) (qa (pv 3) (qa (pv 5) (qa (pv 4) (qa (pv 6) qd)))))))) qq)))
 (qe (qo (jS (qa (pv 3) (qa (pv 6) qd))))))))))),?_⟩
  apply⟨a,s,0,rfl,hS,by decide,fun c0=>?_⟩;apply⟨c0,rfl,fun p H1 s1 aa hB1=>?_⟩;apply⟨by show 5<=sizeLine;decide,fun m2 an=>?_⟩;have bj:=hB1.apart an;have s2:=qC (Sr H1) (o:=.lst ([5,8,8,8,15].map iV)) an;have em:upd H1 m2 (.lst ([5,8,8,8,15].map iV)) m2=some (.lst ([5,8,8,8,15].map iV)):=qb;have eu:upd H1 m2 (.lst [V.int 5,V.int 8,V.int 8,V.int 8,V.int (14+1)])=upd H1 m2 (.lst ([5,8,8,8,15].map iV)):=rfl;rw[eu];generalize upd H1 m2 (.lst ([5,8,8,8,15].map iV))=H2 at s2 em;apply⟨p,5,999999999999,rfl,hB1.same s2,by decide,by decide,fun d H3 hd b3 bd=>?_⟩;obtain⟨x,hx⟩:∃ x,[5,8,8,8,15][d]?=some x:=⟨_,yb (by simpa using hd)⟩
  have ar:0<x/\x<=15:=by
   have:=ye hx;simp only[yz,yM,Yt] at this;lk
  show .inl (zX (b3 _ _ bj em) (v:=iV x) (qx (by rw[yd,hx];rfl)) ?_);apply⟨p,x,999999999998,rfl,bd,ar.1,by lk,fun m H4 hm b4 be=>?_⟩;apply⟨p,m,100,rfl,be.mono (by decide),by lk,fun n ss H5n ay af bm Z ao hO ce=>?_⟩;apply⟨p,3,99,rfl,af,by decide,by decide,fun dm H5m bz ac ae=>?_⟩;apply qed ?_;ext;have B:=ac _ _ Z ao;have bt:=hO.few;generalize decide ((dm:Int)=0)=mx;show .inl ⟨⟨_,.of B⟩,qK (xs:=ss.map V.str) (fun i ys G=>But p H5m G/\Pn (99-i) G p/\∃ fs:LS,ys=fs.map V.str/\fs.length<=i) ⟨fun _ _ _ e=>e,ae,[],rfl,yh _⟩ (fun i ys G _ C=>.of (C.1 _ _ Z B)) (fun i y ys G hy C=>?_) fun ys G C=>?_⟩
  .obtain⟨bG,u,fs,rfl,W⟩:=C;rw[yd] at hy;obtain⟨x',bp,rfl⟩:=yn.mp hy;have ca:i<ss.length:=(yc.mp bp).1;apply⟨p,2,99-i-1,rfl,u.mono (by lk),by decide,by decide,fun d2 G2 bw b2 I=>?_⟩;apply qed ?_;show⟨_,rfl,qJ (fun ho=>?_) (fun ho=>?_)⟩
   .ext;show⟨by rw[ya];show qi (by lk),bG.trans7 b2,I.mono (by lk),fs++[x'],by rw[yC];rfl,by rw[yt];show kK W⟩
   .show⟨bG.trans7 b2,I.mono (by lk),fs,rfl,by lk⟩
  obtain⟨bG,u,fs,rfl,W⟩:=C;rw[show(ss.map V.str).length=ss.length from ya ..] at W u;show⟨by rw[ya];show yT (qi (by lk)),fun U A=>?_⟩;have bu:=u.apart A;have s5:=qC (Sr G) (o:=.lst (fs.map V.str)) A;have L:upd G U (.lst (fs.map V.str)) U=some (.lst (fs.map V.str)):=qb;have ad:=u.new (o:=.lst (fs.map V.str)) A;have M:=s5 _ _ (bG _ _ Z B);have b5:But p H4 (upd G U (.lst (fs.map V.str))):=fun c o hc e=>s5 _ _ (bG _ _ hc (ac _ _ hc (ay c o hc e)));generalize upd G U (.lst (fs.map V.str))=H5 at s5 L ad M b5;apply⟨by show 0<=sizeLine;decide,fun l hl=>?_⟩;have cb:=ad.apart hl;have S:U≠l:=fun z=>by rw[z,hl] at L;cases L
  have N:n≠l:=fun z=>by rw[z,hl] at M;cases M
  have aw:But p H1 H3:=fun c o hc e=>b3 c o hc (s2 c o e);have ax:But p H1 H5:=(aw.trans7 b4).trans7 b5;have as:L2.Same H H5:=fun c o e=>ax c o (fun z=>by rw[z,aa] at e;cases e) (s1 c o e);have al:=as.free hl
  have bn:H n=none:=by
   show(Same.free (H':=H4) (fun c o e=>b4 c o (fun z=>by rw[z,aa] at e;cases e) (b3 c o (fun z=>by rw[z,aa] at e;cases e) (s2 c o (s1 c o e)))) bm)
  have s6:=qC (Sr H5) (o:=.lst ([]:List V)) hl;have D:=as.trans s6;have el:upd H5 l (.lst []) l=some (.lst ([]:List V)):=qb;have ap:=s6 _ _ M;have ag:=s6 _ _ L;generalize upd H5 l (.lst [])=H6 at s6 D el ap ag;apply .inl ⟨a,_,rfl,D.seq hS,fun k bi=>?_⟩
  obtain⟨j,bb,cd⟩:∃ j:LX,qct (s.map V.int) (some 1) (some 61)=j.map V.int/\j.length<=60:=by
   show⟨(s.drop (HT.sIx s.length 0 (some 1))).take (HT.sIx s.length s.length (some 61)-HT.sIx s.length 0 (some 1)),?_,?_⟩
   .unfold qct;rw[ya,<- k9,<- List.map_take]
   .rw [yK];have h1:=HT.sIx_nat s.length s.length 61;have h2:=HT.sIx_nat s.length 0 1;rw[show((61:Nat):Int)=61 from rfl] at h1;rw[show((1:Nat):Int)=1 from rfl] at h2;rw[h1,h2];lk
  rw[bb];have s7:=qC (Sr H6) (o:=.lst (j.map V.int)) bi;have aj:upd H6 k (.lst (j.map V.int)) k=some (.lst (j.map V.int)):=qb;generalize upd H6 k (.lst (j.map V.int))=H7 at s7 aj;apply⟨a,s,61,rfl,(D.trans s7).seq hS,by decide,fun b=>?_⟩;apply⟨a,s,62,rfl,(D.trans s7).seq hS,by decide,fun g=>?_⟩;apply⟨by show 2<=sizeLine;decide,fun k2 ai=>?_⟩;have s8:=qC (Sr H7) (o:=.lst [.int b,.int g]) ai;have ak:upd H7 k2 (.lst [.int b,.int g]) k2=some (.lst [.int b,.int g]):=qb;generalize upd H7 k2 (.lst [.int b,.int g])=H8 at s8 ak;show .inl ⟨k,k2,_,_,rfl,rfl,s8 _ _ aj,ak,by rw[ya];show yT (qi (by simp only[yy,Ym];lk)),fun lc X=>?_⟩;have az:j.map V.int++[.int b,.int g]=(j++[b,g]).map V.int:=by rw[yC];rfl
  rw[az];have au:=s7.trans s8;have s9:=qC au (o:=.lst ((j++[b,g]).map V.int)) X;have e9:upd H8 lc (.lst ((j++[b,g]).map V.int)) lc=some (.lst ((j++[b,g]).map V.int)):=qb;have am:lc≠l:=fun z=>by rw[z,au _ _ el] at X;cases X
  generalize upd H8 lc (.lst ((j++[b,g]).map V.int))=H9 at s9 e9;generalize j++[b,g]=cs at e9;have aq:=s9 _ _ ap;have bh:=s9 _ _ ag;have ba:=s9 _ _ el;show .inl ⟨⟨_,.of e9⟩,qN (xs:=cs.map V.int) (fun i σ J=>But l H9 J/\(∃ ts tps,PL J l ts tps/\DT ss tps)/\∃ y2 y7,σ=[some (.ref a),some (.int 14),y2,some (.ref n),some (.bl mx),some (.ref U),some (.ref l),y7]) ⟨fun c o _ e=>e,⟨[],[],⟨ba,.nil⟩,DT.nil ss⟩,_,_,rfl⟩ (fun i σ J _ hp=>.of (hp.1 _ _ am e9)) (fun i y σ J hy hp=>?_) fun σ J hp=>?_⟩
  .obtain⟨R,⟨ts,tps,hP,hD⟩,y2,y7,rfl⟩:=hp;rw[yd] at hy;obtain⟨c,hc,rfl⟩:=yn.mp hy;have Y:=R _ _ N aq;have ah:=R _ _ S bh;apply qan Y ?_;rw[ya];apply qJ (fun h1=>?_) (fun h1=>?_)
   .have bc:1<ss.length:=by have:=yk h1;lk
    apply⟨c,rfl,fun p2 J1 O bo I=>?_⟩;have ne:∀{x:Addr} {o:HO},J x=some o->x≠p2:=fun e z=>by rw[z,bo] at e;cases e
    apply⟨p2,n,U,l,mx,ss,fs,ts,tps,1,rfl,I.mono (by decide),ne Y,ne hP.1,N,ne ah,S,O _ _ Y,O _ _ ah,hO,bc,hP.same O,hD,fun br av J2 b2 bg bf=>?_⟩;apply⟨fun x o hx e=>b2 x o (ne (R x o hx e)) hx (O _ _ (R x o hx e)),⟨br,av,bg,bf⟩,_,_,rfl⟩
   .show⟨R,⟨ts,tps,hP,hD⟩,_,_,rfl⟩
  .obtain⟨R,⟨ts,tps,hP,hD⟩,y2,y7,rfl⟩:=hp;apply⟨by show 2<=sizeLine;decide,fun t ht=>?_⟩;have sT:=qC (Sr J) (o:=.tup [.ref n,.ref l]) ht;have bq:L2.Same H J:=fun c o e=>R c o (fun z=>by rw[z,al] at e;cases e) (s9 _ _ (D c o e));show q t n l ss ts tps _ (bq.trans sT) qb bn al N (sT _ _ (R _ _ N aq)) hO (hP.same sT) hD
theorem KA:FnScope ["_law_script","_law_names_here","_law_ties","_law_web","_law_colours_here","_law_order","_law_door","_law_word","_law_found","_law_due"] ["_law_script"] (qh qbY):=fS
theorem wt_new{y:Addr}(h:WebN H0 cw H y ss ns)(hb:qbf ss ns kps)(g:TGo ss kps):Wt cw H y ss ns kps:=
 ⟨h.web,fun a b s t d c=>by rw[hb.2.2 a b s t d c,Yq],g.inn⟩
theorem wmake{m l y:Addr}{Q:VK}(F:G m=some (.lst (ss.map V.str)))(g:ss.length<=14)(nd:ss.Nodup)(H:∀ s∈ss,zx s=true)(C:PL G l us kps)(j:TGo ss kps)(p:G y=none)(D:G dx=none)(i:dx≠y)
  (h:∀ ns H2,L2.Same G H2->WebN G cw H2 y ss ns->Wt cw H2 y ss ns kps->Q .non H2):spWeb cw [.ref y,.ref m,.ref l] (upd (upd G dx (.own y)) y (.ins cw dx [])) Q E:=by
 have f:=qC (qC (Sr G) (o:=.own y) D) (o:=.ins cw dx []) (show upd G dx (.own y) y=none by rw[qf (Yd i)];show p);show⟨y,dx,m,l,ss,us,kps,rfl,qb,f _ _ F,g,nd,H,C.same f,j,fun ns H' b B A=>?_⟩
 have a:WebN G cw H' y ss ns:=by
  obtain⟨I,d,ol,n,h1,q,r,t,u,v,w,x⟩:=B
  have k:∀ c,upd (upd G dx (.own y)) y (.ins cw dx []) c=none->G c=none:=fun c z=>by
   cases e:G c with
   | none=>rfl
   | some o=>rw[f _ _ e] at z;cases z
  show⟨I,d,ol,n,h1,q,r,t,u,k _ v,k _ w,k _ x⟩
 show h ns H' (fun c o e=>b c o (fun z=>by rw[z,p] at e;cases e) (f _ _ e)) a (wt_new a A j)
inductive spLaw(K:W.Frag)(vs:List V)(H:Hp)(Q:VK)(E:XK):Prop|mk (a:Addr) (ns:LX) (_:vs=[.ref a]) (_:SqL K H a (ns.map V.int)) (_:ns.length<=63) (_:∀ H',Q (.bl true) H')
theorem tup_eqT{a b:Addr}(c:H a=some (.tup xs))(hb:H b=some (.tup ys))(hl:xs.length=ys.length)(d:∀(j:Nat) x y,xs[j]?=some x->ys[j]?=some y->EqD K H n x y true):EqT K H (n+1) a b true:=by
 have z:=EqT.tup (K:=K) (H:=H) (n:=n) (e:=fun _=>true) (SqT.of c) (SqT.of hb) d
 have e:((List.range (min xs.length ys.length)).all (fun _=>true)&&xs.length==ys.length)=true:=by
  rw[hl,xE,Bool.and_true];show Ys.mpr fun _ _=>rfl
 rw[e] at z;show z
theorem ref_eqD{a b:Addr}(h:EqT K H n a b true):EqD K H n (.ref a) (.ref b) true:=by
 by_cases e:a=b
 .subst e;show .self
 .show .deep h e
theorem qd0{x:V}{b:Bool}{Q:VK}(e:decide (x=.non)=b)(q:Q (.bl b) H):qfF x .non H Q:=by subst e;cases x<;>show q
theorem qfr{c:TE}{b:TGs}{D:Ends}{a:L2.St}(h:c a H fun x H1=>qft K n b x a H1 D.nx):qeV c (qft K n b) D a H:=h
theorem qeC{x:Str}{Q:VK}(q:Q (.bl false) H):qeL K true (.str x) (.str x) H Q:=qf3 (by rw[yD rfl];show q)
theorem DT.go(h:DT ss tps):TGo ss tps:=
 ⟨h.few,h.ok,xq (fun{q r} b c a=>⟨a,fun z=>h.one r c (by rw[<- z];show b)⟩) h.nd⟩
inductive ColV(H:Hp)(ss:LS)(tps:LP):V->Prop
 | no {c:Str->Option Nat} {a b:Str} (d:Drv (tA tps) (Fst (tA tps) ss) c) (all:∀ s∈ss,∃ k,c s=some k) (t:tA tps a b) (e:c a=c b):ColV H ss tps .non
 | yes {d:Addr} {c:Str->Option Nat} (h:CoH H d ss c) (dr:Drv (tA tps) (Fst (tA tps) ss) c) (all:∀ s∈ss,∃ k,c s=some k) (ok:∀ a b,tA tps a b->c a≠c b):ColV H ss tps (.ref d)
theorem ColV.same{v:V}(h:ColV H ss tps v)(s:L2.Same H H'):ColV H' ss tps v:=by
 cases h with
 | no d all t e=>show .no d all t e
 | yes h dr all ok=>show .yes (h.same s) dr all ok
section
variable{ss:LS}{tps:LP}{m:Str->Option (LS)}{c:Str->Option Nat}
theorem qbD(h:tA tps a b):tA tps b a:=h.symm
theorem qbn(c:DT ss tps)(h:tA tps a b):a∈ss:=h.elim (fun z=>(c.ok _ z).1) fun z=>(c.ok _ z).2.1
theorem qd1(f:DT ss tps)(g:WyC (tA tps) ss m)(d:∀ s∈ss,m s≠none)(h:Drv (tA tps) (Fst (tA tps) ss) c)(all:∀ s∈ss,∃ k,c s=some k)(ok:∀ a b,tA tps a b->c a≠c b)(i:s∈ss):c s=some (sdP m s):=by
 cases e:m s with
 | none=>show absurd e (d s i)
 | some r=>rw[qaT e];show Drv.two h g.drv (fun _ _=>qbD) (fun _ _=>qbn f) all ok s _ (by rw[e];rfl)
theorem col_told(d:DT ss tps)(w:WyC (tA tps) ss m)(n:∀ s∈ss,m s≠none)(o:∀ a b,tA tps a b->sdP m a≠sdP m b)(A:Drv (tA tps) (Fst (tA tps) ss) c)(all:∀ s∈ss,∃ k,c s=some k)(t:tA tps a b):c a≠c b:=by
 have f:∀ s∈ss,(m s).map sdW=some (sdP m s):=fun s p=>by
  cases e:m s with
  | none=>show absurd e (n s p)
  | some r=>rw[qaT e];rfl
 have k:=Drv.two w.drv A (fun _ _=>qbD) (fun _ _=>qbn d) (fun s p=>⟨_,f s p⟩) fun x y h=>by
  show(m x).map sdW≠(m y).map sdW;rw[f x (qbn d h),f y (qbn d (qbD h))];show fun z=>o x y h (ym z)
 obtain⟨i,q⟩:=all a (qbn d t);obtain⟨j,u⟩:=all b (qbn d (qbD t));have h1:=k a i q;have v:=k b j u;have g:(m a).map sdW=some i:=h1;have l:(m b).map sdW=some j:=v;rw[f a (qbn d t)] at g;rw[f b (qbn d (qbD t))] at l;rw[q,u];intro z;show o a b t (ym (g.trans (z.trans l.symm)))
theorem qdb(h:OddR (tA tps) ss l)(a:ss.length<=14):l.length<=14:=yi (qdl h.nd h.inn) a
end
structure LwS(K:W.Frag)(cw:Addr)(J:Hp)(a n l x:Addr)(v4:V)(ss:LS)(ns:LN)(ts:LQ)(tps:LP)(zs:LX):Prop where
 a:SqL K J a (zs.map V.int)
 n:J n=some (.lst (ss.map V.str))
 ok:NOk ss
 pl:PL J l ts tps
 dt:DT ss tps
 w:Wt cw J x ss ns tps
 c:ColV J ss tps v4
theorem LwS.same{a n l:Addr}{b:V}{d:LX}(h:LwS K cw J a n l x b ss ns ts tps d)(s:L2.Same J J'):LwS K cw J' a n l x b ss ns ts tps d:=
 ⟨s.seq h.a,s _ _ h.n,h.ok,h.pl.same s,h.dt,h.w.same s,h.c.same s⟩
theorem ok_law26(F:Fun K "law" "law" qbY f fd)(T:Txt K mg cc cw)(Ue:DefOk P w K mg base CX0 3 "_law_sided" ["_law_script","_law_most"] (spSi6 K))(Uq:MakeOk P w K mg base CX0 5 cw "Web" ["self","names","ties"] (spWeb cw))(uX:DefOk P w K mg base CX0 1 "_law_colours" ["_law_names_here","_law_ties"] spCol)(ug:DefOk P w K mg base CX0 1 "_law_at" ["_law_script","_law_k"] (spCe K))(Uf:DefOk P w K mg base CX0 18 "_law_asked" ["_law_web","_law_door"] (spAsk cw))(uC:DefOk P w K mg base CX0 1 "_law_is_odd_ring" ["_law_names_here","_law_ties","_law_ring"] spOr)(Ug:DefOk P w K mg base CX0 1 "_law_spoil" ["_law_ring"] spSpo):FnOk P w K mg base CX0 19 f fd ["_law_script"] (spLaw K):=by
 show F.ok KA fun _ _ _ s H vs Q E hr h=>?_
 .obtain⟨a,zs,rfl,ha,hl,q⟩:=h;have N:=ze hr;obtain⟨TC3,W⟩:∃ t0:TS,t0=fun D σ J=>(∀ H',D.rt (.bl true) H')/\∃(n l x:Addr) (v4:V) (ss:LS) (ns:LN) (ts:LQ) (tps:LP),σ=[some (.ref a),some (.ref n),some (.ref l),some (.ref x),some v4,none,none,none,none,none]/\LwS K cw J a n l x v4 ss ns ts tps zs:=⟨_,rfl⟩;obtain⟨TC5,X⟩:∃ t0:TS,t0=fun D σ J=>(∀ H',D.rt (.bl true) H')/\∃(n l x od:Addr) (v4:V) (ss:LS) (ns:LN) (ts:LQ) (tps:LP) (ds:LX),σ=[some (.ref a),some (.ref n),some (.ref l),some (.ref x),some v4,some (.ref od),none,none,none,none]/\LwS K cw J a n l x v4 ss ns ts tps zs/\J od=some (.lst (ds.map V.int)):=⟨_,rfl⟩;show⟨_,(qc (jw (qp Ue (hmR hr) qz (qa (pv 0) (qa qg qd))) (qbp rfl (jB (qk (i:=1) KA.nd rfl (yP rfl)) (jB (qk (i:=2) KA.nd rfl (yP rfl)) qaM))))
 (qc (qm (i:=3) KA.nd rfl (yP rfl) (qaY Uq (hmR hr) (qa (pv 1) (qa (pv 2) qd))))
 (qc (qm (i:=4) KA.nd rfl (Xu rfl) (qp uX (hmR hr) qz (qa (pv 1) (qa (pv 2) qd))))
 (qbj TC3 (qc (qm (i:=5) KA.nd rfl (yP rfl) (jg (qa qg (qa qg (qa qg qd)))))
 (qc (qM (qj (zG (K:=K) rfl N) (qE zw (qp ug (hmR hr) qz (qa (pv 0) (qa qg qd))) qg) qg (qw _)) (qe (qm (i:=5) KA.nd rfl (yP rfl) (jg (qa qg (qa qg (qa qg (qa qg qd))))))) qq)
 (qbj TC5 (qc (jo yZ rfl (qL (K:=K) rfl (pv 5)) (qk (i:=6) KA.nd rfl (yP rfl))
 (qc (jw (qp Uf (hmR hr) qz (qa (pv 3) (qa (pv 6) qd))) (qbp rfl (jB (qk (i:=7) KA.nd rfl (yP rfl)) (jB (qk (i:=8) KA.nd rfl (yP rfl)) qaM))))
 (qe (qM (qj qfG (pv 4) zk (qw _)) (qc (qM (PW.pt (qar (qj (qaB (K:=K) rfl N) (pv 7) jH (qw _)) (qaj (jm (qX (qp uC (hmR hr) qz (qa (pv 1) (qa (pv 2) (qa (pv 8) qd))))))))) (qe (qo zi)) qq)
 (qe (qQ (qp Ug (hmR hr) qz (qa (pv 8) qd))))) (qe (qM (PW.pt (qar (qj (qaB (K:=K) rfl N) (pv 7) jH (qw _)) (qar (jm (qX (qr (qaA (K:=K) rfl) rfl T.b_isinstance YR (qa (pv 8) (qa (j3 (v:=.ty "tuple") rfl T.b_tuple boot_tuple rfl) qd))))) (qaj (qj (qaB (K:=K) rfl N) (qr (zj (K:=K) rfl) rfl T.b_len YS (qa (pv 8) qd)) qg (qw _)))))) (qe (qo zi)) (qe (qM (qj (zG (K:=K) rfl N) (pv 6) qg (qw _)) (qc (qm (i:=9) KA.nd rfl (yP rfl) (jS (qa (jG (sc:=qh qbY) (XN:=["_law_script","_law_names_here","_law_ties","_law_web","_law_colours_here","_law_order","_law_door","_law_word","_law_found","_law_due"]) ["_law_name","_law_colours_here"] 1 [4] rfl rfl rfl (by room) rfl (by room)
  (qL (K:=K) rfl (pv 1)) (fun _ _ _ _=>(qk (i:=0) (show(["_law_name","_law_colours_here"]:LS).Nodup by room) rfl (yP rfl))) qW
  (fun _ _ _ _=>(ji (qj (zG (K:=K) rfl N) (qt (qu (K:=K) rfl N) (pv 1) (pv 0) (fun _ _=>rfl)) qg (qw _))))
  (fun _ _ _ _=>(pv 0))) (qa (jG (sc:=qh qbY) (XN:=["_law_script","_law_names_here","_law_ties","_law_web","_law_colours_here","_law_order","_law_door","_law_word","_law_found","_law_due"]) ["_law_name","_law_colours_here"] 1 [4] rfl rfl rfl (by room) rfl (by room)
  (qL (K:=K) rfl (pv 1)) (fun _ _ _ _=>(qk (i:=0) (show(["_law_name","_law_colours_here"]:LS).Nodup by room) rfl (yP rfl))) qW
  (fun _ _ _ _=>(ji (qj (zG (K:=K) rfl N) (qt (qu (K:=K) rfl N) (pv 1) (pv 0) (fun _ _=>rfl)) qg (qw _))))
  (fun _ _ _ _=>(pv 0))) qd))))
 (qc (qM (PW.pt (qar (jm (qX (qr (qaA (K:=K) rfl) rfl T.b_isinstance YR (qa (qt (qu (K:=K) rfl N) (pv 8) qg (fun _ _=>rfl)) (qa (j3 (v:=.ty "list") rfl T.b_list Xz rfl) qd))))) (qaj (qj (qaB (K:=K) rfl N) (pv 8) (pv 9) (qw _))))) (qe (qo zi)) qq)
 (qc (qQ (qby (K:=K) rfl yV Yi Yj je (qt (qu (K:=K) rfl N) (pv 8) qg (fun _ _=>rfl)) (qa jH qd)))
 (qe (qQ (qby (K:=K) rfl yV Yi Yj je (qt (qu (K:=K) rfl N) (pv 8) qg (fun _ _=>rfl)) (qa jH qd))))))) qq))))))))
 (qe (qo zi))) ?cut5))) ?cut3)))),?_⟩
  case cut3 =>
   intro D σ J h;rw[W] at h;obtain⟨rt,n,l,x,v4,ss,ns,ts,tps,rfl,L⟩:=h;apply⟨by show 3<=sizeLine;decide,fun od bc=>?_⟩;have O:=qC (Sr J) (o:=.lst [.int 0,.int 1,.int 0]) bc;have e1:upd J od (.lst [.int 0,.int 1,.int 0]) od=some (.lst ([0,1,0].map V.int)):=qb;generalize upd J od (.lst [.int 0,.int 1,.int 0])=J1 at O e1;have S:=L.same O;apply⟨a,zs,1,rfl,S.a,by decide,fun c1=>?_⟩;apply⟨_,_,rfl,rfl,by show(0:Int)<2;decide,?_⟩;apply qdm ?_;apply qJ (fun _=>?_) fun _=>?_
   .ext;show⟨by show 4<=sizeLine;decide,fun ai as=>?_⟩;have r:=qC (Sr J1) (o:=.lst [.int 1,.int 0,.int 1,.int 0]) as;have e2:upd J1 ai (.lst [.int 1,.int 0,.int 1,.int 0]) ai=some (.lst ([1,0,1,0].map V.int)):=qb;rw[X];show⟨rt,n,l,x,ai,v4,ss,ns,ts,tps,_,rfl,S.same r,e2⟩
   .ext;rw[X];show⟨rt,n,l,x,od,v4,ss,ns,ts,tps,_,rfl,S,e1⟩
  case cut5 =>
   intro D σ J h;rw[X] at h;obtain⟨rt,n,l,x,od,v4,ss,ns,ts,tps,ds,rfl,L,eo⟩:=h;have am:=L.ok.few;apply .inl ⟨⟨_,.of eo⟩,qN (xs:=ds.map V.int) (fun i σ G=>L2.Same J G/\∃ y6 y7 y8 y9,σ=[some (.ref a),some (.ref n),some (.ref l),some (.ref x),some v4,some (.ref od),y6,y7,y8,y9]) ⟨L2.Same.refl J,_,_,_,_,rfl⟩ (fun i σ G _ hp=>.of (hp.1 _ _ eo)) (fun i y σ G hy hp=>?_) fun σ G hp=>?_⟩
   .obtain⟨sG,y6,y7,y8,y9,rfl⟩:=hp;rw[yd] at hy;obtain⟨ak,ay,rfl⟩:=yn.mp hy;have LG:=L.same sG;apply qfr ?_;apply⟨x,ss,ns,tps,ak,rfl,LG.w,fun m t0 t G1 O hW B ag ah an=>?_,fun m a' b' t0 lr ring G1 O hW B ae bd hR ad ar ah=>?_⟩
    .show⟨t0,_,rfl,SqT.of ah,rfl,_,_,rfl,_,_,rfl,rfl,?_⟩;have S:=LG.same O
     obtain⟨v1,v2,ht⟩:∃ v1 v2,G1 t=some (.tup [v1,v2]):=by
      rcases an with⟨_,l1,l2,z,_⟩ | ⟨_,v1,v2,z⟩
      .show⟨_,_,z⟩
      .show⟨_,_,z⟩
     ext
     cases LG.c with
     | no d all t' e=>show absurd e (col_told L.dt hW B ag d all t')
     | @yes d c hc dr all ok =>
      show qd0 (b:=false) (yl fun z=>by cases z) ?_;apply yq ?_;apply qeC ?_;apply yq ?_;apply qbL (.inl (.tup ht)) rfl (qao K "tuple" (by simp) "tuple" (by simp)) ?_;apply yq ?_;apply qfe ht ?_;show .inl ⟨rfl,rfl,?_⟩;have e2:(if true=true then !eqV (V.int (([v1,v2].length:Nat):Int)) (V.int 2) else eqV (V.int (([v1,v2].length:Nat):Int)) (V.int 2))=false:=rfl;rw[e2];apply yq ?_;apply qdm ?_;ext;rcases an with⟨af,l1,l2,Y,ap,aq,av,aw,ax⟩ | ⟨af,_⟩
      .rw [yD af];show zA ?_;have ao:=hc.same O;have ec:∀{s:Str},s∈ss->c s=some (sdP m s):=fun hs=>qd1 L.dt hW B dr all ok hs;have ac:∀ s∈ss,sdP m s<2:=fun s hs=>dr.lt s _ (ec hs);apply .inl ⟨⟨_,.of (S.n)⟩,qK (xs:=ss.map V.str) (fun i ys Z=>Z=G1/\ys=((ss.take i).filter fun s=>decide (sdP m s=0)).map V.str) ⟨rfl,rfl⟩ (fun i ys Z _ g=>by rw[g.1];show .of (S.n)) (fun i y ys Z hy g=>?_) fun ys Z g=>?_⟩
       .obtain⟨rfl,rfl⟩:=g;rw[yd] at hy;obtain⟨s',C,rfl⟩:=yn.mp hy;have ba:i<ss.length:=(yc.mp C).1;have bb:((ss.take i).filter fun s=>decide (sdP m s=0)).length<=14:=yi (yQ _ _) (by rw[yK];lk);rw[yH,C,Yc];apply .inr ⟨d,_,rfl,(ao).get (ec (ye C)),?_⟩;apply qdm ?_;show⟨_,rfl,qJ (fun ho=>?_) (fun ho=>?_)⟩
        .ext;show⟨by rw[ya];show qi (by lk),rfl,?_⟩;show _=List.map V.str (_++[s'].filter _);rw[yL,yG (yD (by have:=yk ho;lk)),yC];rfl
        .show⟨rfl,?_⟩;show _=List.map V.str (_++[s'].filter _);rw[yL,yE (fun z=>ho (yD (by have:=yk z;lk))),Yw,Yb]
       obtain⟨rfl,rfl⟩:=g;rw[show(ss.map V.str).length=ss.length from ya ..,yO];show⟨by rw[ya];show yT (qi (by have:=yQ (fun s=>decide (sdP m s=0)) ss;lk)),fun g0 hg=>?_⟩;have r:=qC (Sr Z) (o:=.lst ((ss.filter fun s=>decide (sdP m s=0)).map V.str)) hg;have U:upd Z g0 (.lst ((ss.filter fun s=>decide (sdP m s=0)).map V.str)) g0=some (.lst ((ss.filter fun s=>decide (sdP m s=0)).map V.str)):=qb;generalize upd Z g0 (.lst ((ss.filter fun s=>decide (sdP m s=0)).map V.str))=G2 at r U;apply .inl ⟨⟨_,.of (r _ _ S.n)⟩,qK (xs:=ss.map V.str) (fun i ys Z=>Z=G2/\ys=((ss.take i).filter fun s=>decide (sdP m s=1)).map V.str) ⟨rfl,rfl⟩ (fun i ys Z _ g=>by rw[g.1];show .of (r _ _ S.n)) (fun i y ys Z hy g=>?_) fun ys Z g=>?_⟩
       .obtain⟨rfl,rfl⟩:=g;rw[yd] at hy;obtain⟨s',C,rfl⟩:=yn.mp hy;have ba:i<ss.length:=(yc.mp C).1;have bb:((ss.take i).filter fun s=>decide (sdP m s=1)).length<=14:=yi (yQ _ _) (by rw[yK];lk);rw[yH,C,Yc];apply .inr ⟨d,_,rfl,(ao.same r).get (ec (ye C)),?_⟩;apply qdm ?_;show⟨_,rfl,qJ (fun ho=>?_) (fun ho=>?_)⟩
        .ext;show⟨by rw[ya];show qi (by lk),rfl,?_⟩;show _=List.map V.str (_++[s'].filter _);rw[yL,yG (yD (by have:=yk ho;lk)),yC];rfl
        .show⟨rfl,?_⟩;show _=List.map V.str (_++[s'].filter _);rw[yL,yE (fun z=>ho (yD (by have:=yk z;lk))),Yw,Yb]
       obtain⟨rfl,rfl⟩:=g;rw[show(ss.map V.str).length=ss.length from ya ..,yO];show⟨by rw[ya];show yT (qi (by have:=yQ (fun s=>decide (sdP m s=1)) ss;lk)),fun g1 hg=>?_⟩;have R:=qC r (o:=.lst ((ss.filter fun s=>decide (sdP m s=1)).map V.str)) hg;have al:upd Z g1 (.lst ((ss.filter fun s=>decide (sdP m s=1)).map V.str)) g1=some (.lst ((ss.filter fun s=>decide (sdP m s=1)).map V.str)):=qb;have U:=qC (Sr Z) (o:=.lst ((ss.filter fun s=>decide (sdP m s=1)).map V.str)) hg _ _ U;generalize upd Z g1 (.lst ((ss.filter fun s=>decide (sdP m s=1)).map V.str))=G3 at R al U;apply⟨by show 2<=sizeLine;decide,fun u au=>?_⟩;have aj:=qC (Sr G3) (o:=.tup [.ref g0,.ref g1]) au;have s4:=qC R (o:=.tup [.ref g0,.ref g1]) au;have eu:upd G3 u (.tup [.ref g0,.ref g1]) u=some (.tup [.ref g0,.ref g1]):=qb;generalize upd G3 u (.tup [.ref g0,.ref g1])=G4 at aj s4 eu;apply .inl (.inr (.inl ⟨t,_,_,_,rfl,rfl,SqT.of (s4 _ _ Y),rfl,?_⟩));ext;have A:=s4 _ _ aw;have M:=s4 _ _ ax;show qbL (.inl (.lst A)) rfl (qao K "list" (by simp) "list" (by simp)) ?_;apply yq ?_;ext
       have fe:(ss.filter fun s=>!decide (sdP m s=0))=ss.filter fun s=>decide (sdP m s=1):=List.filter_congr fun s hs=>by
        have:=ac s hs;by_cases h0:sdP m s=0
        .rw [h0];rfl
        .rw [show sdP m s=1 by lk];rfl
       have same:∀{p q:Addr} {rs:LS},G4 p=some (.lst (rs.map V.str))->G4 q=some (.lst (rs.map V.str))->EqD K G4 1 (.ref p) (.ref q) true:=fun hp hq=>ref_eqD (by have:=qdY (K:=K) hp hq;rwa[yD rfl] at this);show .inr (.inl ⟨t,u,true,2,rfl,rfl,by decide,tup_eqT (s4 _ _ Y) eu rfl fun j x' y' I aa=>?_,?_⟩)
       .match j,I,aa with
        | 0,I,aa=>cases I;cases aa;show same A (aj _ _ U)
        | 1,I,aa=>cases I;cases aa;rw[fe] at M;show same M (aj _ _ al)
        | j+2,I,_=>cases I
       apply yq ?_;apply .inl (.inr (.inl ⟨t,_,_,_,rfl,rfl,SqT.of (s4 _ _ Y),rfl,?_⟩));apply⟨.inl ⟨rfl,_,SqL.of A⟩,?_⟩;ext;have fl:∀ p:Str->Bool,((ss.filter p).map V.str).length<1000:=fun p=>by rw[ya];show Yx (yQ _ _) (by lk)
       show⟨l1,_,_,rfl,rfl,A,qi (yT (fl _)),?_⟩;have be:t≠l1:=zB (s4 _ _ Y) A (fun z=>by cases z);apply .inl (.inr (.inl ⟨t,_,_,_,rfl,rfl,SqT.of (by rw[qf be];show s4 _ _ Y),rfl,?_⟩));apply⟨.inl ⟨rfl,_,SqL.of (by rw[qf (Yd av)];show M)⟩,?_⟩;apply⟨l2,_,_,rfl,rfl,by rw[qf (Yd av)];show M,qi (yT (fl _)),?_⟩;show⟨fun c' o e=>?_,_,_,_,_,rfl⟩;have z1:c'≠l1:=fun z=>by rw[z] at e;rw[sG _ _ e] at ap;cases ap
       have z2:c'≠l2:=fun z=>by rw[z] at e;rw[sG _ _ e] at aq;cases aq
       rw[qf z2,qf z1];show s4 _ _ (O _ _ (sG _ _ e))
      .rw [yl af];show yq ?_;apply⟨sG.trans O,_,_,_,_,rfl⟩
    .show⟨t0,_,rfl,SqT.of ah,rfl,_,_,rfl,_,_,rfl,rfl,?_⟩;have S:=LG.same O;ext
     cases LG.c with
     | yes hc dr all ok =>
      show absurd ?_ (ok a' b' ae);rw[qd1 L.dt hW B dr all ok (qbn L.dt ae),qd1 L.dt hW B dr all ok (qbn L.dt (qbD ae)),bd]
     | no d all t' e =>
      show qd0 (b:=true) (by decide) ?_;apply zA ?_;apply qeC ?_;apply yq ?_;apply⟨n,l,lr,ss,ring,ts,tps,rfl,S.n,S.pl,ar,hR,qdb hR am,fun G2 r=>?_⟩;apply yq ?_;apply⟨lr,_,rfl,r _ _ ar,by rw[ya];have:=qdb hR am;lk,?_⟩;show⟨fun c' o e=>?_,_,_,_,_,rfl⟩;have z1:c'≠lr:=fun z=>by rw[z] at e;rw[sG _ _ e] at ad;cases ad
      rw[qf z1];show r _ _ (O _ _ (sG _ _ e))
   .obtain⟨sG,y6,y7,y8,y9,rfl⟩:=hp;apply rt G
  apply qfr ?_;apply⟨a,zs,rfl,ha,hl,fun t n l ss ts tps H1 O ht bg bf bh hn hO hP hD=>?_⟩;show⟨t,_,rfl,SqT.of ht,rfl,_,_,rfl,_,_,rfl,rfl,?_⟩;apply fun y dx hy az ag=>wmake hn hO.few hO.nd hO.nm hP hD.go hy az ag fun ns H2 r wn W2=>⟨rfl,?_⟩;have ac:=O.trans r;apply⟨n,l,ss,ts,tps,rfl,r _ _ hn,hO.few,hP.same r,hD.ok,fun d c H3 R _ hc dr all ok=>?_,fun c a' b' H3 R dr all t e=>?_⟩
  .rw [W];show⟨q,n,l,y,_,ss,ns,ts,tps,rfl,(ac.trans R).seq ha,R _ _ (r _ _ hn),hO,(hP.same r).same R,hD,W2.same R,.yes hc dr all ok⟩
  .rw [W];show⟨q,n,l,y,_,ss,ns,ts,tps,rfl,(ac.trans R).seq ha,R _ _ (r _ _ hn),hO,(hP.same r).same R,hD,W2.same R,.no dr all t e⟩
end
theorem all_mk{l:W.OpenLaw}{w:World}{h:Heap}{r:Str->Option Value}{fa f d p b:Addr}{u x y:Tok}(X:K.In h)(G:h.Ns mainGlobals r)(F:r "law"=some (.ref fa))
  (C0_:W.nsIn K mainGlobals "Odd"=some (some (.ref p)))
  (C1_:W.nsIn K mainGlobals "OnceError"=some (some (.ref b)))
  (Cw_:W.nsIn K mainGlobals "Web"=some (some (.ref f)))
  (Cf_:W.nsIn K mainGlobals "Forest"=some (some (.ref d)))
  (vo:FG K "are_pairs" zI)
  (U2:FG K "partners_in" j8)
  (vd:FG K "told_pairs" j0)
  (Vm:FG K "is_row" qa1)
  (Uz:FG K "are_unlike_places" jj)
  (UQ:FG K "goes_by_turns" qT)
  (vx:FG K "can_turn" qaf)
  (Vn:FG K "turned" qaI)
  (vy:FG K "greatest" qag)
  (UR:FG K "greatest_from" jO)
  (wv:FG K "sorts" qbW)
  (vz:FG K "word_for" zy)
  (ww:FG K "loose" qbX)
  (vA:FG K "sides_of" zg)
  (US:FG K "on_first_side" jP)
  (vR:FG K "ways_in" qaJ)
  (U3:FG K "spread_from" zc)
  (vS:FG K "ring_of" zS)
  (UA:FG K "greatest_by_sides" qU)
  (vD:FG K "in_cover" qah)
  (vT:FG K "is_name" zP)
  (vV:FG K "has_bit" qaD)
  (vE:FG K "is_place" qaa)
  (UH:FG K "are_two_places" jE)
  (ve:FG K "numbers_of" zn)
  (vW:FG K "near_of" qaF)
  (wD:FG K "_law_at" qc9)
  (wz:FG K "_law_box" qbU)
  (Vo:FG K "_law_take" qa3)
  (vX:FG K "_law_names" zh)
  (vY:FG K "_law_sided" zT)
  (U4:FG K "_law_more_ties" jv)
  (vp:FG K "_law_colours" zK)
  (UT:FG K "_law_is_odd_ring" jQ)
  (vZ:FG K "_law_asked" qaK)
  (v6:FG K "_law_spoil" qaL)
  (wI:FG K "law" qbY)
  (Wd:FM K p "__init__" "Odd.__init__" zZ)
  (We:FC K b "__init__" "OnceError.__init__" jD)
  (Wf:FM K f "__init__" "Web.__init__" qab)
  (vF:FM K f "places" "Web.places" zo)
  (Vp:FM K f "ties" "Web.ties" qae)
  (U5:FM K f "has_place" "Web.has_place" jL)
  (vq:FM K f "has_tie" "Web.has_tie" j7)
  (U6:FM K f "number_of" "Web.number_of" jM)
  (vG:FM K f "beside" "Web.beside" zq)
  (UU:FM K f "bits_beside" "Web.bits_beside" ju)
  (Vq:FM K f "tied" "Web.tied" qac)
  (vf:FM K f "names_in" "Web.names_in" jA)
  (U7:FM K d "__init__" "Forest.__init__" za)
  (Vr:FM K d "row" "Forest.row" zr)
  (vg:FM K d "reached" "Forest.reached" jl)
  (v7:FM K d "grow" "Forest.grow" j9)
  (vH:FM K d "reach" "Forest.reach" jY)
  (UI:FM K d "look_around" "Forest.look_around" jd)
  (UB:FM K d "bring_together" "Forest.bring_together" qH)
  (Uv:FM K d "bases_down_from" "Forest.bases_down_from" qP)
  (UJ:FM K d "reach_round" "Forest.reach_round" jc)
  (v8:FM K d "fold" "Forest.fold" jN)
  (X0:XL K p (.ref b::qcG))
  (q0:XQ K p)
  (X1:XL K b qcG)
  (q1:XQ K b)
  (y0:W.findIn K (.ref p) "ring"=some none)
  (L:W.mroIn K p (.ref b)=some true)
  (nd:([p]++[b]).Nodup)
  (r1:W.readsIn K b (.type "type")=true)
  (r3:W.specialIn K (.ref b) "__getattribute__"=some (some (.builtin "type.__getattribute__")))
  (v1:W.findIn K (.type "type") "__getattribute__"=some (some (.builtin "type.__getattribute__")))
  (v3:W.subIn K (.type "type") (.type "type")=some true)
  (v4:W.findCls K (.type "ValueError") (.type "type") "__init__"=some (.val (.builtin "ValueError.__init__")))
  (w1:W.plainGet K f Str.empty=true)
  (w2:W.hasDictIn K f=true)
  (w3:W.plainOver K f=true)
  (w4:W.findIn K (.ref f) "__setattr__"=some (some (.builtin "object.__setattr__")))
  (w5:W.makesIn K f=true)
  (w6:W.keepIn K (.ref f)=true)
  (w7:W.findIn K (.ref f) "numbers"=some none)
  (w8:W.findIn K (.ref f) "order"=some none)
  (w9:W.findIn K (.ref f) "near"=some none)
  (z:W.specialIn K (.builtin "object.__class__") "__get__"=some (some (.builtin "getset_descriptor.__get__")))
  (A:W.takesIn K (.builtin "object.__class__")=some true)
  (O:W.plainGet K d Str.empty=true)
  (P:W.hasDictIn K d=true)
  (R:W.plainOver K d=true)
  (S:W.findIn K (.ref d) "__setattr__"=some (some (.builtin "object.__setattr__")))
  (U:W.makesIn K d=true)
  (Y:W.keepIn K (.ref d)=true)
  (ag:W.findIn K (.ref d) "board"=some none)
  (ah:W.findIn K (.ref d) "partners"=some none)
  (ai:W.findIn K (.ref d) "rows"=some none)
  (aj:W.findIn K (.ref d) "parents"=some none)
  (ak:W.findIn K (.ref d) "bases"=some none)
  (al:W.findIn K (.ref d) "rings"=some none)
  (am:W.findIn K (.ref d) "waiting"=some none)
  (ao:W.findIn K (.ref d) "longer"=some none)
  (ad:W.nsIn K mainGlobals "zip"=some none)
  (B:W.nsIn K mainGlobals "any"=some none)
  (C:W.nsIn K mainGlobals "set"=some none)
  (M:W.mroIn K p (.ref p)=some true)
  (H:W.kitOne K (.ref p) (.ref b)=some true)
  (z0:W.nsIn K mainGlobals "len"=some none)
  (z1:W.nsIn K mainGlobals "int"=some none)
  (z2:W.nsIn K mainGlobals "enumerate"=some none)
  (z3:W.nsIn K mainGlobals "all"=some none)
  (z4:W.nsIn K mainGlobals "max"=some none)
  (z5:W.nsIn K mainGlobals "min"=some none)
  (z6:W.nsIn K mainGlobals "isinstance"=some none)
  (z7:W.nsIn K mainGlobals "bool"=some none)
  (z8:W.nsIn K mainGlobals "str"=some none)
  (z9:W.nsIn K mainGlobals "range"=some none)
  (Z:W.nsIn K mainGlobals "list"=some none)
  (aa:W.nsIn K mainGlobals "tuple"=some none)
  (ac:W.nsIn K mainGlobals "ValueError"=some none)
  (u0:W.nsIn K mainGlobals "LONGEST_NAME"=some (some (.int 6 u)))
  (u1:W.nsIn K mainGlobals "MOST_PLACES"=some (some (.int 14 x)))
  (u2:W.nsIn K mainGlobals "MOST_TIES"=some (some (.int 30 y))) :
  ∃ fd:FuncData,(∀(s:Shared) (v:Value),BindsTo s fd ⟨[v],[]⟩ [("_law_script",v)])/\∀ base:Heap,K.In base->base.Ns mainGlobals r->FnOk l.prog w K r base CX0 19 fa fd ["_law_script"] (spLaw K):=by
 obtain⟨_,_,vv,Vx⟩:=vo;obtain⟨_,_,U8,Vy⟩:=U2;obtain⟨_,_,vh,Vz⟩:=vd;obtain⟨_,_,Vs,VA⟩:=Vm;obtain⟨_,_,UC,VB⟩:=Uz;obtain⟨_,_,UV,VC⟩:=UQ;obtain⟨_,_,vJ,VD⟩:=vx;obtain⟨_,_,Vt,VE⟩:=Vn;obtain⟨_,_,vK,VF⟩:=vy;obtain⟨_,_,UW,VG⟩:=UR;obtain⟨_,_,wA,VH⟩:=wv;obtain⟨_,_,vL,VI⟩:=vz;obtain⟨_,_,wB,VJ⟩:=ww;obtain⟨_,_,vM,VL⟩:=vA;obtain⟨_,_,UX,VM⟩:=US;obtain⟨_,_,v9,VN⟩:=vR;obtain⟨_,_,U9,VO⟩:=U3;obtain⟨_,_,Va,VP⟩:=vS;obtain⟨_,_,UD,VQ⟩:=UA;obtain⟨_,_,vN,VR⟩:=vD;obtain⟨_,_,Vb,VS⟩:=vT;obtain⟨_,_,Vc,VT⟩:=vV;obtain⟨_,_,vO,VU⟩:=vE;obtain⟨_,_,UK,VV⟩:=UH;obtain⟨_,_,vi,VW⟩:=ve;obtain⟨_,_,Vd,VX⟩:=vW;obtain⟨_,_,wE,VY⟩:=wD;obtain⟨_,_,wC,VZ⟩:=wz;obtain⟨_,_,Vu,V0⟩:=Vo;obtain⟨_,_,Ve,V1⟩:=vX;obtain⟨_,_,Vf,V2⟩:=vY;obtain⟨_,_,va,V3⟩:=U4;obtain⟨_,_,vw,V4⟩:=vp;obtain⟨_,_,UY,V5⟩:=UT;obtain⟨_,_,Vg,V6⟩:=vZ;obtain⟨_,_,Vh,V7⟩:=v6;obtain⟨_,_,wJ,V8⟩:=wI;obtain⟨_,_,Wg,Wh,wF⟩:=Wd;obtain⟨_,_,Wi,wG⟩:=We;obtain⟨_,_,Wj,Wk,wH⟩:=Wf;obtain⟨_,_,wK,wL,V9⟩:=vF;obtain⟨_,_,wM,wN,wc⟩:=Vp;obtain⟨_,_,wO,wP,we⟩:=U5;obtain⟨_,_,wQ,wR,wf⟩:=vq;obtain⟨_,_,wS,wT,wg⟩:=U6;obtain⟨_,_,wU,wV,wj⟩:=vG;obtain⟨_,_,wW,wX,wm⟩:=UU;obtain⟨_,_,wY,wZ,wq⟩:=Vq;obtain⟨_,_,Wa,Wc,wu⟩:=vf;obtain⟨_,_,vb,vc,Uy⟩:=U7;obtain⟨_,_,Vv,Vw,vk⟩:=Vr;obtain⟨_,_,vm,vn,UG⟩:=vg;obtain⟨_,_,Vi,Vj,U0⟩:=v7;obtain⟨_,_,vP,vQ,UZ⟩:=vH;obtain⟨_,_,UL,UM,Ut⟩:=UI;obtain⟨_,_,UE,UF,Us⟩:=UB;obtain⟨_,_,Uw,Ux,Ur⟩:=Uv;obtain⟨_,_,UO,UP,Uu⟩:=UJ;obtain⟨_,_,Vk,Vl,U1⟩:=v8;have e:=F.symm.trans (kW X G wJ);cases e;have Y0:XAt K p:=qfk X0 xmro_on q0 z A;have Y1:XAt K b:=qfk X1 qdD q1 z A;obtain⟨I,ae,J,af⟩:=kits nd (fun i q=>match i,q with | 0,_=>X0 | n+1,h=>absurd h (by simp only[yy,Ym];lk)) X1;have m:Cls K f:=⟨w1,w2,w3,w4⟩;have g:Cls K d:=⟨O,P,R,S⟩
 have N:∀ a∈fAtt,NoAttr K d a:=fun a E=>by
  unfold fAtt at E;simp only[yz,yM,Yt] at E;rcases E with rfl | rfl | rfl | rfl | rfl | rfl | rfl | rfl<;>assumption
 have t:∀ i,i<2->([p,b,b,b,b,b,b,b,b]:LQ).getD i d=([p]:LQ).getD i b:=fun i q=>match i,q with | 0,_=>rfl | 1,_=>rfl | n+2,h=>absurd h (by lk);have T:Txt K r (fun i=>([p,b,b,b,b,b,b,b,b]:LQ).getD i d) f:=⟨YK X G z0,
  YK X G z1,
  YK X G z2,
  YK X G z3,
  YK X G z4,
  YK X G z5,
  YK X G z6,
  YK X G z7,
  YK X G z8,
  YK X G z9,
  YK X G Z,
  YK X G aa,
  YK X G ac,
  ⟨u,kW X G u0⟩,
  ⟨x,kW X G u1⟩,
  ⟨y,kW X G u2⟩,
  kW X G C0_,
  kW X G C1_,
  ⟨v1,v3,v4⟩,
  fun i q=>match i,q with | 0,_=>Y0 | 1,_=>Y1 | n+2,h=>absurd h (by lk),
  fun i q=>match i,q with | 0,_=>y0 | n+1,h=>absurd h (by lk),
  (fun i j q hj=>by rw[t i (by lk),t j (by lk)];show I i j q hj),
  (fun i q=>by rw[t i (by lk)];show J i q),
  fun i q=>match i,q with | 0,_=>L | n+1,h=>absurd h (by lk),
  m,
  w7,
  w8,
  w9,
  kW X G Cw_,
  kW X G Cf_,
  g,
  N,
  YK X G ad,
  YK X G B,
  YK X G C⟩
 obtain⟨oc,od,kV,D,pm,an,cd,ct,sl,rfl,lk,hc⟩:=V8.ex;show⟨W.fnOf "law" "law" (qam qbY) (zD qbY) (qh qbY) .none kV D pm an cd ct,fun s v=>.of_eq rfl,fun base _ _=>?_⟩;have d_once:CMethOk l.prog w K r base CX0 1 b "OnceError" "__init__" ["self","text"] (spOnce K):=fc_mk X G C1_ r1 Wi r3 wG (ok_once wG T);have d0:XMakeOk l.prog w K r base 2 p "Odd" ["self","ring"] (spX p (qeu 0)):=fx_mk X G C0_ Y0 q0 Wg Wh wF (ok_Odd wF T d_once);have c:=@fg_mk l.prog w K r base h;have o:=@fm_mk l.prog w K r base;have fw:=@fw_mk l.prog w K r base h;have d_name:=c X G Vb VS (ok_name VS T);have d_place:=c X G vO VU (ok_place VU d_name);have d_two:=c X G UK VV (ok_two VV T d_place);have d_bit:=c X G Vc VT (ok_bit VT);have d_nums:=c X G vi VW (ok_nums VW T d_name);have d_near:=c X G Vd VX (ok_near VX T d_two d_bit);have q_web:MakeOk l.prog w K r base CX0 5 f "Web" ["self","names","ties"] (spWeb f):=fw X G Cw_ w5 w6 Wj Wk wH (ok_web wH T d_nums d_near);have m_has:=o m wO wP we (ok_has we T d_place);have m_num:=o m wS wT wg (ok_num wg T m_has);have m_bb:=o m wW wX wm (ok_bb wm T m_num);have m_nin:=o m Wa Wc wu (ok_nin wu T d_bit);have m_bs:=o m wU wV wj (ok_bs wj T m_bb m_nin);have m_tied:=o m wY wZ wq (ok_tied wq T m_bb m_num d_bit);have m_pls:=o m wK wL V9 (ok_pls V9 T);have m_ts:=o m wM wN wc (ok_ts wc T m_bs);have m_ht:=o m wQ wR wf (ok_ht wf T d_two m_tied);have d_ap:=c X G vv Vx (ok_ap Vx T m_ht);have d_pn:=c X G U8 Vy (ok_pn Vy T d_ap);have d_tp:=c X G vh Vz (ok_tp Vz T d_pn m_ts);have d_ul:=c X G UC VB (ok_ul VB T m_has);have d_gt:=c X G UV VC (ok_gt VC T m_ht);have d_ir:=c X G Vs VA (ok_ir VA T d_pn d_ul d_gt);have d_ct:=c X G vJ VD (ok_ct VD T d_pn d_ir);have d_tu:=c X G Vt VE (ok_tu VE T d_pn m_ts d_ct);have p_re:=o g vP vQ UZ (ok_re UZ T);have p_bd:=o g Uw Ux Ur (ok_bd Ur T);have p_rr:=o g UO UP Uu (ok_rr Uu T p_re);have p_fd:=o g Vk Vl U1 (ok_fdF U1 T m_pls);have p_bt:=o g UE UF Us (ok_bt Us T p_bd p_rr p_fd);have p_la:=o g UL UM Ut (ok_la Ut T m_bs p_bt p_re);have p_gw:=o g Vi Vj U0 (ok_gw U0 T m_pls p_re p_la);have p_mk:MakeOk l.prog w K r base CX0 10 d "Forest" ["self","web","pairs"] (spFi (fun i=>([p,b,b,b,b,b,b,b,b]:LQ).getD i d) f):=fw X G Cf_ U Y vb vc Uy (ok_fi Uy T d_pn p_gw);have p_row:=o g Vv Vw vk (ok_fr vk T);have p_rch:=o g vm vn UG (ok_fd2 UG T m_pls);have d_gf:=c X G UW VG (ok_gf VG T d_tp p_mk p_row d_tu);have d_gr:=c X G vK VF (ok_gr VF T d_gf);have d_lo:=c X G wB VJ (ok_lo VJ T d_gr p_mk p_rch);have d_wf:=c X G vL VI (ok_wf VI T m_bs);have d_so:=c X G wA VH (ok_so VH T d_lo d_wf m_pls);have d_wi:=c X G v9 VN (ok_wi VN T m_pls (c X G U9 VO (ok_sf VO T m_bs)));have d_sd:=c X G vM VL (ok_sd VL T d0 d_wi (c X G UX VM (ok_ofs VM T)) (c X G Va VP (ok_ro VP T)) m_ts m_pls);have d_gs:=c X G UD VQ (ok_gs VQ T d_sd d_so (c X G vN VR (ok_ic VR T)) d_gr m_pls);have d_tk:=c X G Vu V0 (ok_tkp V0 T);have d_at:=c X G wE VY (ok_ce VY T);have d_mt:=c X G va V3 (ok_mt6 V3 T d_tk) (hb:=fun _ _ _ _ _ _=>lN5 fun _ _ _ _ _=>rfl);show ok_law26 V8 T (c X G Vf V2 (ok_si6 V2 T d_at (c X G wC VZ (ok_pu VZ T)) d_tk (c X G Ve V1 (ok_nmA V1 T d_tk)) d_mt)) q_web (c X G vw V4 (ok_col V4 T)) d_at (c X G Vg V6 (ok_ask V6 T M H d_sd d_gs)) (c X G UY V5 (ok_or V5 T)) (c X G Vh V7 (ok_spo V7 T))
theorem walk{l:PySem.W.OpenLaw}{q:Program}{loose:LS}{XP:(Str->Option Value)->Heap->Prop}{YP:World->Heap->Prop}{d:DefRec}{K:Params->yg}(m:l.most=some 63)(c:d.params.defaults=[])
  (j:∀(w:World) (h:Heap),YP w h->(K w.params).In h)
  (F:∀(w:World) (b:Str->Option Value) (e:Addr) (h:Heap),(K w.params).In h->h.Ns mainGlobals b->b d.name=some (.ref e) ->
   ∃ g:FuncData,(∀(s:Shared) (u:Value),BindsTo s g ⟨[u],[]⟩ [("_law_script",u)])/\∀ base:Heap,(K w.params).In base->base.Ns mainGlobals b->FnOk l.prog w (K w.params) b base CX0 19 e g ["_law_script"] (spLaw (K w.params))) :
  PySem.W.WalkO q loose XP YP l.row.toRowW d [] (fun f vs=>PySem.call f vs):=
 L2.walk_of (n:=63) (k:=19) (x:="_law_script") (CX:=fun _=>CX0) (sp:=fun w=>spLaw (K w.params)) m (by decide) c ⟨rfl,by decide,by decide,rfl⟩ j F (fun _ _ a ns hl _ i=>⟨a,ns,rfl,i,hl,fun _=>rfl⟩) fun _ _ _ _ _ z=>z
end K26
set_option maxRecDepth 100000 in
set_option maxHeartbeats 0 in
theorem PySem.Challenge.cw_onceroad_k26_two_sides_or_an_odd_ring_holds : PySem.Challenge.rw_onceroad_k26_two_sides_or_an_odd_ring.Holds := by
  w_on; o_law
  show PySem.W.holds_open (q := K26.Q) (loose := []) (Xt := K26.Xt) (XP := PySem.W.XL K26.Q []) (Yf := PySem.W.Hook.obs K26.Hk) (Ya := PySem.W.Hook.val K26.Hk) (YP := PySem.W.Hook.says (PySem.W.kHook K26.Kf K26.ks K26.ks_eq)) (N := K26.NN) K26.hl (PySem.W.Hook.of K26.Hk) (PySem.W.Hook.keeps K26.Hk) (fun s e => PySem.W.xl_of s (Bool.and_eq_true_iff.mp e).1) PySem.W.XL.keeps (by rfl) (by rfl) (by rfl) (fun s e => PySem.W.recFacts_of (Bool.and_eq_true_iff.mp e).2) (by rfl) (by first | assumption | room) (by room) ⟨rfl, rfl, rfl, rfl, rfl, by room⟩ ?hw ?hc
  (case hw => w_witness2)
  k_fill
  show K26.walk (l := PySem.Challenge.rw_onceroad_k26_two_sides_or_an_odd_ring) rfl rfl (fun w h Y => PySem.W.kIn_of Y) ?F
  case F =>
    intro w mg fa h KX G hmg
    refine' K26.all_mk KX G hmg ?_ ?_ ?_ ?_ ?_ ?_ ?_ ?_ ?_ ?_ ?_ ?_ ?_ ?_ ?_ ?_ ?_ ?_ ?_ ?_ ?_ ?_ ?_ ?_ ?_ ?_ ?_ ?_ ?_ ?_ ?_ ?_ ?_ ?_ ?_ ?_ ?_ ?_ ?_ ?_ ?_ ?_ ?_ ?_ ?_ ?_ ?_ ?_ ?_ ?_ ?_ ?_ ?_ ?_ ?_ ?_ ?_ ?_ ?_ ?_ ?_ ?_ ?_ ?_ ?_ ?_ ?_ ?_ ?_ ?_ ?_ ?_ ?_ ?_ ?_ ?_ ?_ ?_ ?_ ?_ ?_ ?_ ?_ ?_ ?_ ?_ ?_ ?_ ?_ ?_ ?_ ?_ ?_ ?_ ?_ ?_ ?_ ?_ ?_ ?_ ?_ ?_ ?_ ?_ ?_ ?_ ?_ ?_ ?_ ?_ ?_ ?_ ?_ ?_ ?_ ?_ ?_ ?_ ?_ ?_ ?_
    any_goals first | k_is | decide
    any_goals first | k_is | decide | show⟨_, _, by k_is, L2.fun_mk (by k_is) (by k_is) (by k_is)⟩ | show⟨_, _, by k_is, by k_is, L2.fun_mk (by k_is) (by k_is) (by k_is)⟩ | show⟨_, _, _, _, _, _, _, _, _, _, _, _, _, _, _, by k_is⟩ | show⟨by k_is, by k_is, by k_is, by k_is, by k_is, by k_is, by k_is, by k_is⟩ | kernel_rfl | fail
