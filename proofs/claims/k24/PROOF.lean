import PyProof.Rows.All
import Wide.All
import OpenK.AllK
import Wide.FinOn
import PyProof.EqAt
import PyProof.EqKinds
import PyProof.TupleCall
import Lean
import PySem.Challenge.RW_onceroad_k24_between_two_pairs
set_option Elab.async false
set_option linter.all false
set_option maxRecDepth 100000
local macro_rules | `(tactic| show $e)=>`(tactic| refine $e)
abbrev LQ:=List Int
abbrev LI:=List PySem.Addr
abbrev LN:=List Nat
abbrev LS:=List PySem.Str
abbrev LP:=List (PySem.Str×PySem.Str)
local macro_rules | `(tactic| room)=>`(tactic| decide +kernel)
local macro_rules | `(tactic| lk)=>`(tactic| first | lia | omega)
theorem ya{b c:Type}{a:List b}(f:b→c):(a.map f).length=a.length:=List.length_map f
theorem yb{a:Type}{l:List a}{i:Nat}(h:i<l.length):l[i]?=some l[i]:=List.getElem?_eq_getElem h
theorem yc{b:Type}{l:List b}{i:Nat}{a:b}:l[i]?=some a↔∃h:i<l.length,l[i]=a:=List.getElem?_eq_some_iff
theorem yd{a b:Type}{f:a→b}{l:List a}{i:Nat}:(l.map f)[i]?=l[i]?.map f:=List.getElem?_map
theorem ye{b:Type}{l:List b}{i:Nat}{a:b}(h:l[i]?=some a):a∈l:=List.mem_of_getElem? h
theorem yf{b:Type}{a:b}{l:List b}(h:a∈l):∃i:Nat,l[i]?=some a:=List.getElem?_of_mem h
noncomputable abbrev yg:=PySem.W.Frag
theorem yh(n:Nat):n≤n:=Nat.le_refl n
theorem yi{a b c:Nat}(h:a≤b)(k:b≤c):a≤c:=Nat.le_trans h k
theorem yj{a b c:Nat}(h:a<b)(k:b≤c):a<c:=Nat.lt_of_lt_of_le h k
theorem yk{p:Prop}[Decidable p](h:decide p=true):p:=of_decide_eq_true h
theorem yl{p:Prop}[Decidable p](h:¬p):decide p=false:=decide_eq_false h
theorem ym{c:Type}{a b:c}(h:some a=some b):a=b:=Option.some.inj h
theorem yn{c d:Type}{f:c→d}{x:Option c}{b:d}:x.map f=some b↔∃a,x=some a∧f a=b:=Option.map_eq_some_iff
theorem yo{b:Type}{a:b}{l:List b}:(a::l).Nodup↔a∉l∧l.Nodup:=List.nodup_cons
theorem yp{a:Type}{p:a→Bool}{b:List a}{x:a}:x∈b.filter p↔x∈b∧p x=true:=List.mem_filter
theorem yq{A B:Prop}(h:B):if false=true then A else B:=h
def yr:=@PySem.wpAny_bind
def yt:=@PySem.Heap.get?_push_of_some
def yu:=@List.mem_cons_of_mem
def yv:=@PySem.wpAny_pure
def yw:=@List.size_toArray
def yx:=@List.mem_singleton
def yy:=@List.mem_cons_self
def yz:=@List.length_append
def yA:=@List.mem_cons
def yB:=@if_neg
def yC:=@List.length_cons
def yD:=@decide_eq_true
def yE:=@List.map_append
def yF:=@PySem.Heap.lt_size
def yG:=@if_pos
def yH:=@List.mem_append
def yI:=@Or.inl
def yJ:=@List.map_cons
def yK:=@PySem.Heap.get?_push_size
def yL:=@List.length_take
def yM:=@List.mem_append_right
def yN:=@Nat.ne_of_lt
def yO:=@PySem.F.plainAttrs_list
def yP:=@Nat.le_of_lt
def yQ:=@List.mem_map
def yR:=@List.take_add_one
def yS:=@List.not_mem_nil
def yT:=@List.getElem?_append_left
def yU:=@Nat.zero_le
def yV:=@List.mem_range
def yW:=@PySem.PassesOwn.never
def yX:=@Bool.and_eq_true
def yY:=@beq_iff_eq
def yZ:=@List.nodup_append
def Yb:=@List.mem_append_left
def Yc:=@List.take_length
def Yd:=@Nat.lt_irrefl
def Ye:=@PySem.F.slot_list_append
def Yg:=@PySem.F.type_list_append
def Yh:=@Bool.false_ne_true
def Yi:=@List.sum_cons
def Yj:=@Int.toNat_natCast
def Yk:=@List.length_range
def Yl:=@PySem.wpAny_holding
def Ym:=@PySem.wpAny_mono
def Yn:=@List.length_nil
def Yo:=@List.contains_cons
def Yp:=@Classical.byContradiction
def Yq:=@Ne.symm
def Yr:=@beq_eq_false_iff_ne
def Ys:=@PySem.sizeLine_eq
def Yt:=@List.append_nil
def Yu:=@List.flatten_cons
def Yv:=@List.getElem?_append_right
def Yx:=@Array.length_toList
def Yy:=@PySem.boot_len
def Yz:=@PySem.Heap.get?_update_other
def YA:=@PyProof.Rows.slot_tuple_getitem
def YB:=@List.length_filter_le
def YC:=@PyProof.Rows.boot_isinstance
def YD:=@List.all_eq_true
def YE:=@List.append_assoc
def YF:=@PySem.wpAny_loadPart_at
def YG:=@PySem.W.mg_none_of
def YH:=@List.mem_flatten
def YI:=@PySem.wpAny_newObj_type
def YJ:=@PySem.W.looks_findIn
def YK:=@True.intro
def YL:=@PySem.Heap.size_push
def YM:=@List.filter_cons
def YN:=@or_false
def YO:=@List.filterMap_cons
def YQ:=@PySem.F.slot_NoneType_eq
def YR:=@PySem.wpAny_Call_Name_kw
def YS:=@decide_eq_decide
def YT:=@PySem.F.excBase_ValueError
def YU:=@List.take_of_length_le
def YV:=@List.pairwise_map
def YW:=@List.getD_eq_getElem?_getD
def YX:=@PySem.mem_of_lookup
def YY:=@PySem.wpAny_of_eq
def YZ:=@List.pairwise_iff_getElem
def Y3:=@PySem.Heap.get?_update_self
def Y4:=@PySem.W.callWith_K
def Y5:=@List.pairwise_cons
def Y6:=@PySem.codeAny_mono
def Y7:=@PySem.codeAny_call_builtin
def Y8:=@List.exists_mem_of_length_pos
def Y9:=@PySem.wpAny_truthy_bool
def xi:=@List.pairwise_singleton
def xj:=@PySem.wpAny_call
def xk:=@List.replicate_succ
def xl:=@PySem.W.looks_mroIn
def xm:=@PySem.wpAny_isSubtype_exc
def xn:=@List.length_reverse
def xo:=@PySem.Heap.SameBut.update
def xp:=@PyProof.Rows.F.plain_set_update_loop
def xq:=@Nat.zero_add
def xr:=@List.getElem?_concat_length
def xt:=@List.lookup_cons
def xu:=@beq_self_eq_true
def xv:=@PyProof.Rows.boot_list
def xw:=@Nat.lt_of_le_of_lt
def xx:=@List.lookup_append
def xy:=@Array.getElem?_eq_some_iff
def xz:=@Int.emod_lt_of_pos
def xA:=@List.length_replicate
def xB:=@Array.getElem?_eq_getElem
def xC:=@PySem.wpAny_passesOwn
def xD:=@Bool.eq_iff_iff
def xE:=@List.find?_cons
def xF:=@Nat.le_succ
def xG:=@PySem.wpAny_field
def xH:=@PySem.W.any_some
def xI:=@Nat.lt_succ_self
def xJ:=@List.length_drop
def xK:=@List.any_eq_true
def xL:=@PySem.wpAny_getItem_str_slice
def xM:=@List.getElem?_set_self
def xN:=@PySem.Calls.callWith_builtin
def xO:=@PySem.tupleKind_room_in1
def xP:=@decide_eq_true_iff
def xQ:=@List.filter_append
def xR:=@List.range_succ
def xS:=@Int.emod_nonneg
def xT:=@PySem.wpAny_standAt
def xU:=@PySem.W.methodCall_KW
def xV:=@Array.getElem?_toList
def xW:=@List.take_append_drop
def xX:=@Bool.not_eq_true'
def xY:=@Sum.inr.inj
def xZ:=@List.getElem?_set_ne
def Xa:=@Nat.ne_of_gt
def Xb:=@Nat.le_of_eq
def Xc:=@List.map_map
def Xd:=@List.map_congr_left
def Xe:=@List.flatMap_append
def Xf:=@List.flatten_append
def Xg:=@Option.isSome_iff_exists
def Xh:=@PySem.wpAny_getItem_list_slice
def Xi:=@if_true
def Xj:=@List.filter_nil
def Xk:=@List.all_append
def Xl:=@List.sum_append
def Xm:=@PySem.Heap.IsSliceOf.new
def Xn:=@Bool.false_eq_true
def Xo:=@List.getElem?_replicate
def Xp:=@PySem.F.slot_list_index
def Xq:=@List.length_eq_zero_iff
def Xr:=@decide_eq_false_iff_not
def Xs:=@PySem.W.cellsFrom_some
def Xu:=@Prod.ext
def Xv:=@PySem.slot_list_getitem
def Xw:=@Or.inr
def Xx:=@Nat.lt_succ_of_lt
def Xy:=@PySem.wpAny_pyIter_list
def Xz:=@PySem.PassesOwn.leaving
def XA:=@PySem.F.slot_dict_get
def XB:=@PySem.F.slot_list_pop
def XC:=@PySem.F.type_list_pop
def XD:=@Nat.min_le_right
def XE:=@List.cons_append
def XF:=@List.getElem_mem
def XG:=@PySem.evalPart_none
def XH:=@List.any_cons
def XI:=@PySem.Value.ref.inj
def XJ:=@PySem.W.mg_of
def XM:=@PySem.Around.frames_deeper
def XR:=@PySem.Calls.evalArgs_plain
def XS:=@List.length_eraseIdx
def XT:=@PySem.wpAny_execs_nil
def XU:=@List.of_mem_zip
def XV:=@PySem.SeqAt.EqAt.same
def XW:=@List.nil_append
def XY:=@Option.map_some
def XZ:=@PySem.post_val_or_str
def X3:=@PyProof.Rows.get?_update_seq
def X4:=@PySem.W.plainGet_of
def X5:=@PySem.W.looks_clsIn
def X6:=@PySem.Heap.get?_update_ne
def X7:=@List.toList_toArray
def X8:=@List.getElem?_range
def X9:=@Bool.or_true
def kc:=@PyProof.Rows.boot_repr
def ke:=@if_false
def kf:=@PyProof.Rows.slicePart_none
def kg:=@PySem.call_meets
def kh:=@PySem.Code.quiet_builtin
def ki:=@List.getElem_idxOf
def kj:=@PyProof.Rows.boot_tuple
def km:=@List.take_sublist
def kn:=@Option.isSome_map
def kr:=@PySem.Heap.get?_push_at
def ku:=@List.all_cons
def ky:=@PySem.wpAny_attempt
def kz:=@PySem.W.mg_of
def kA:=@PyProof.Rows.listUpdate_at
def kB:=@PySem.wpAny_call_entry
def kC:=@Nat.succ_le_succ
def kD:=@PySem.wpAny_askSetting
def kE:=@Nat.lt_of_not_le
def kF:=@List.mem_flatMap
def kG:=@List.mem_reverse
def kH:=@List.map_nil
def kI:=@Nat.lt_trans
def kK:=@List.all_map
def kL:=@PySem.Txt.slice_le
def kM:=@PySem.wpAny_rule
def kN:=@Int.zero_add
def kO:=@Prod.ext_iff
def kP:=@PySem.codeAny_of_tree
def kQ:=@PySem.codeAny_builtin
def kR:=@PySem.wpAny_Slice
def kS:=@List.take_zero
def kT:=@Bool.or_false
def kU:=@Prod.mk.injEq
def kW:=@Int.ediv_one
def kX:=@decide_false
def kY:=@not_or
namespace L2
open PySem PySem.Spec PyProof.Rows
noncomputable def jO(s:Stmt)(j:Nat):Stmt:=match s with
 | .ClassDef _ _ _ body _ _ _ _ _ _ _=>body.getD j (.Pass ⟨0,0,0,0⟩)
 | _=>.Pass ⟨0,0,0,0⟩
noncomputable def zV(s:Stmt):Arguments:=match s with
 | .FunctionDef _ a _ _ _ _ _ _ _ _=>a
 | _=>{ posonlyargs:=[],args:=[],vararg:=none,kwonlyargs:=[],kw_defaults:=[],kwarg:=none,defaults:=[] }
noncomputable def jE(s:Stmt):List Stmt:=match s with
 | .FunctionDef _ _ b _ _ _ _ _ _ _=>b
 | _=>[]
noncomputable def qg(s:Stmt):Scope:=match s with
 | .FunctionDef _ _ _ _ _ _ sc _ _ _=>sc
 | _=>{ kind:=.function,names:=[],isGenerator:=false,isCoroutine:=false }
noncomputable def hookT(K:Params->yg)(a:LI)(e:∀ P,a=(K P).map (·.1))(p:Addr)(o:Obj):PySem.W.Hook:=
 ⟨List (Option Obj),fun s=>(p::a).map s.heap.get?,fun w=>some o::(K w.params).map fun q:Addr×Obj=>some q.2,fun w h=>(PySem.W.kHook K a e).says w h/\h.get? p=some o,
  fun w s h=>⟨(PySem.W.kHook K a e).of w s (List.cons.inj h).2,(List.cons.inj h).1⟩,fun w h h' x k=>⟨(PySem.W.kHook K a e).keeps w h h' x.1 k,k _ _ x.2⟩⟩
end L2
namespace K24
open PySem L2 PyProof.Rows
noncomputable def top(i:Nat):Stmt:=PySem.Challenge.pw_onceroad_k24_between_two_pairs.main.body.getD i (.Pass ⟨0,0,0,0⟩)
noncomputable abbrev jm:Stmt:=jO (top 2) 0
noncomputable abbrev jI:Stmt:=jO (top 8) 0
noncomputable abbrev jU:Stmt:=top 19
noncomputable abbrev qak:Stmt:=top 24
noncomputable abbrev zf:Stmt:=top 25
noncomputable abbrev qP:Stmt:=top 26
noncomputable abbrev j3:Stmt:=top 27
noncomputable abbrev zM:Stmt:=jO (top 23) 0
noncomputable abbrev qal:Stmt:=top 28
noncomputable abbrev j4:Stmt:=jO (top 23) 1
noncomputable abbrev jx:Stmt:=jO (top 23) 4
noncomputable abbrev jy:Stmt:=jO (top 23) 6
noncomputable abbrev j5:Stmt:=jO (top 23) 7
noncomputable abbrev qY:Stmt:=jO (top 23) 8
noncomputable abbrev zN:Stmt:=jO (top 23) 9
noncomputable abbrev jh:Stmt:=jO (top 23) 12
noncomputable abbrev qbi:Stmt:=jO (top 23) 2
noncomputable abbrev jV:Stmt:=top 11
noncomputable abbrev jz:Stmt:=jO (top 23) 5
noncomputable abbrev jB:Stmt:=top 12
noncomputable abbrev qdd:Stmt:=top 30
noncomputable abbrev qbx:Stmt:=top 31
noncomputable abbrev qaM:Stmt:=top 32
noncomputable abbrev jW:Stmt:=top 33
noncomputable abbrev jC:Stmt:=top 35
noncomputable abbrev qbz:Stmt:=top 34
noncomputable abbrev qap:Stmt:=top 37
noncomputable abbrev j6:Stmt:=top 38
noncomputable abbrev jk:Stmt:=top 15
noncomputable abbrev qaq:Stmt:=top 16
noncomputable abbrev jl:Stmt:=top 14
noncomputable abbrev qas:Stmt:=top 43
noncomputable abbrev zw:Stmt:=top 44
noncomputable abbrev zP:Stmt:=top 40
noncomputable abbrev zx:Stmt:=top 45
noncomputable abbrev qI:Stmt:=top 41
noncomputable abbrev qW:Stmt:=top 42
noncomputable abbrev qcG:Stmt:=top 46
end K24
namespace Hd
open PySem PySem.W PySem.Calls PyProof.Rows
variable{p:Program}{α:Type}
noncomputable def qe9(c:String->Option Builtin)(p:Program)(w:World)(a:Nat)(b:Option Value):Nat->SharedT->Thread->Option SharedT
 | 0,_,_=>none
 | n+1,s,t=>match through t with
  | true=>some s
  | false=>match stepOk a b t with
   | false=>none
   | true=>match stepT (denote c) p w s t with
    | some (s',t')=>qe9 c p w a b n s' t'
    | none=>none
theorem qeU{d:String->Option Builtin}{w:World}{a:Nat}{b:Option Value}:∀{n:Nat} {s s':SharedT} {t:Thread},qe9 d p w a b n s t=some s'->topRun d p w a b n s.abs t=some s'.abs
 | 0,_,_,_,h=>by cases h
 | n+1,s,s',t,h=>by
  unfold qe9 at h;unfold topRun
  cases e:through t with
  | true=>rw[e] at h;cases h;rfl
  | false =>
   rw[e] at h
   cases f:stepOk a b t with
   | false=>rw[f] at h;cases h
   | true =>
    rw[f] at h
    cases c:stepT (denote d) p w s t with
    | none=>rw[c] at h;cases h
    | some r=>obtain⟨g,i⟩:=r;rw[c] at h;rw[stepT_spec c];show qeU h
noncomputable def qcH:List Obj->Nat->BT->BT
 | [],_,t=>t
 | o::r,n,t=>qcH r (n+1) (t.ins n o)
noncomputable def qea(P:Params)(a:OsState):SharedT:=⟨qcH (boot_heap P).objs.toList 0 .nil,(boot_heap P).objs.size,(boot_heap P).life,Array.mk [],boot_drawn,boot_toks,a⟩
theorem boot_abs(P:Params):absHeap (qcH (boot_heap P).objs.toList 0 .nil) (boot_heap P).objs.size (boot_heap P).life=boot_heap P:=by kernel_rfl
noncomputable def qem(p q:Program)(Xt:Shared->Bool){α:Type}(Yf:Shared->α)(N:Nat)(w:World)(a:OsState):=match (boot_heap w.params).isNs mainGlobals&&(Array.mk []:Array GenState).size==0 with
 | true=>(qe9 treeTable p w (boot_heap w.params).objs.size ((boot_heap w.params).nsMap mainGlobals "__annotations__") N (qea w.params a) (topStub p)).bind fun s=>match staticsOk (importedModules p.main.body) (boot_heap w.params) s.abs.heap&&namesBound p s.abs.heap&&gensDone s.abs&&laidKept (boot_heap w.params) s.abs.heap with
   | true=>some (openSeen q [] (importedModules p.main.body) Xt true s.abs,Yf s.abs)
   | false=>none
 | false=>none
noncomputable def lookS(p:Program)(N:Nat)(w:World)(a:OsState):Option Shared:=match (boot_heap w.params).isNs mainGlobals&&(Array.mk []:Array GenState).size==0 with
 | true=>(qe9 treeTable p w (boot_heap w.params).objs.size ((boot_heap w.params).nsMap mainGlobals "__annotations__") N (qea w.params a) (topStub p)).bind fun s=>match staticsOk (importedModules p.main.body) (boot_heap w.params) s.abs.heap&&namesBound p s.abs.heap&&gensDone s.abs&&laidKept (boot_heap w.params) s.abs.heap with
   | true=>some s.abs
   | false=>none
 | false=>none
theorem lookT_map(p q:Program)(Xt:Shared->Bool)(Yf:Shared->α)(N:Nat)(w:World)(a:OsState):qem p q Xt Yf N w a=(lookS p N w a).map fun s=>(openSeen q [] (importedModules p.main.body) Xt true s,Yf s):=by
 unfold qem lookS
 cases (boot_heap w.params).isNs mainGlobals&&(Array.mk []:Array GenState).size==0 with
 | false=>rfl
 | true =>
  dsimp only
  cases qe9 treeTable p w (boot_heap w.params).objs.size ((boot_heap w.params).nsMap mainGlobals "__annotations__") N (qea w.params a) (topStub p) with
  | none=>rfl
  | some s =>
   show(match _ with | true=>_ | false=>_)=Option.map _ (match _ with | true=>_ | false=>_);cases staticsOk (importedModules p.main.body) (boot_heap w.params) s.abs.heap&&namesBound p s.abs.heap&&gensDone s.abs&&laidKept (boot_heap w.params) s.abs.heap<;>rfl
theorem packs{b A B C D E Y:Type}{o:Option b}{f:b->A×B×C×D×E}{g:b->Y}{x:A×B×C×D×E}{y:Y}(h1:o.map (fun s=>((f s).1,(f s).2.1,(f s).2.2.1,(f s).2.2.2.1))=some (x.1,x.2.1,x.2.2.1,x.2.2.2.1))(h:o.map (fun s=>(f s).2.2.2.2)=some x.2.2.2.2)(c:o.map g=some y):o.map (fun s=>(f s,g s))=some (x,y):=by
 cases o with
 | none=>cases c
 | some s =>
  have a:=ym h1;have d:=ym h;have e:=ym c;have i:=congrArg Prod.fst a;have j:=congrArg (fun z=>z.2.1) a;have l:=congrArg (fun z=>z.2.2.1) a;have m:=congrArg (fun z=>z.2.2.2) a;show congrArg some (Xu (Xu i (Xu j (Xu l (Xu m d)))) e)
theorem left_of{q:Program}{Xt:Shared->Bool}{Yf:Shared->α}{Ya:World->α}{N:Nat}(e:opening p=plainProg p.main.scope.names)(n:Nat.ble 600 N=true)(f:∀ s,fenceModules? p s=some s)
  (h:∀ w a,qem p q Xt Yf N w a=some (openGood q [],Ya w)):LeftO p q [] Xt Yf Ya N:=fun w=>by
 obtain⟨⟨m,l,d,k,a⟩,i,j⟩:=yn.mp (boot_open e n f w);obtain⟨rfl,rfl,rfl,rfl⟩:m=boot_heap w.params/\l=Array.mk []/\d=boot_drawn/\k=boot_toks:=by simpa using j
 have b:=h w a;unfold qem at b;unfold openEnds;rw[i];show(topFrom treeTable p w N _).map _=_;unfold topFrom;dsimp only;split at b
 .rename_i z
  rw[z];obtain⟨s,o,c⟩:=Option.bind_eq_some_iff.mp b;have r:=qeU o
  have g:(qea w.params a).abs=⟨boot_heap w.params,Array.mk [],boot_drawn,boot_toks,a⟩:=by
   unfold qea SharedT.abs;dsimp only;rw[boot_abs]
  rw[g] at r;dsimp only;rw[r];split at c
  .rename_i z2
   show((match staticsOk (importedModules p.main.body) (boot_heap w.params) s.abs.heap&&namesBound p s.abs.heap&&gensDone s.abs&&laidKept (boot_heap w.params) s.abs.heap with | true=>some s.abs | false=>none):Option Shared).map _=_;rw[z2];show c
  .cases c
 .cases b
end Hd
namespace K24
open PySem L2 PyProof.Rows PySem.W
noncomputable abbrev NN:Nat:=20000
noncomputable def Q:Program:=view PySem.Challenge.pw_onceroad_k24_between_two_pairs [0,2,3,4,5,6,7,8,9,11,12,14,15,16,18,19,21,22,23,24,25,26,27,28,30,31,32,33,34,35,36,37,38,39,40,41,42,43,44,45,46]
noncomputable def en(P:Params)(t:Tok)(v:Value)(k:Str):DictEntry:=⟨PyData.keyHash P k,.str k t,v⟩
noncomputable def cO(t a b r:Nat)(x y z v:Value)(e u:Nat)(q n:Str):Obj:=⟨.type "code",none,.fields #[.str n t,.str q (t+1),.str "/claim/cut.py" (t+2),.int a 0,.int b 0,.int 0 0,.int 0 0,.int 3 0,.ref r,.bool true,.int 181 0,x,y,z,v,.ref e,.int u 0,.int a 0,.str "/claim/cut.py" (u+1)],#[]⟩
noncomputable def cE(t b a r:Nat)(x y z v:Value)(e u:Nat)(n:Str):Obj:=cO t b a r x y z v e u n n
noncomputable def fO(k c:Nat)(s:Stmt)(m q n:Str):Obj:=⟨.type "function",none,.func (fnOf n q (zV s) (jE s) (qg s) .none .none .none (.str m k) none (.ref c) .none),#[]⟩
noncomputable def fE(k c:Nat)(s:Stmt)(m n:Str):Obj:=fO k c s m n n
noncomputable def Kf(P:Params):Frag:=
 (nat_lit 1,(⟨(.type "dict"),none,.dict #[en P 162 (.ref 4) "builtins",en P 163 (.ref 5) "__main__"] 2,#[]⟩:Obj)) ::
 (nat_lit 2,(⟨.none,none,.dict #[] 0,#[]⟩:Obj)) ::
 (nat_lit 3,(⟨(.type "dict"),none,.dict #[en P 165 (.str "law_onceroad_k24_between_two_pairs" 673) "__name__",en P 166 .none "__doc__",en P 167 .none "__package__",en P 168 (.builtin "__main__.__loader__#opaque") "__loader__",en P 169 .none "__spec__",en P 170 (.ref 6) "__annotations__",en P 171 (.ref 4) "__builtins__",en P 173 (.str "/claim/cut.py" 172) "__file__",en P 174 .none "__cached__",en P 193 (.ref 21) "_wall",en P 221 (.ref 38) "OnceError",en P 246 (.ref 58) "NoName",en P 271 (.ref 77) "Twice",en P 296 (.ref 96) "NoPlace",en P 321 (.ref 115) "NoTie",en P 346 (.ref 134) "TooMany",en P 371 (.ref 153) "NoPairs",en P 396 (.ref 172) "NoRow",en P 408 (.ref 181) "are_pairs",en P 418 (.ref 188) "partners_in",en P 438 (.ref 195) "between",en P 444 (.ref 200) "near_between",en P 450 (.ref 205) "walked",en P 454 (.int 6 453) "LONGEST_NAME",en P 460 (.ref 210) "is_name",en P 464 (.int 14 463) "MOST_PLACES",en P 466 (.int 30 465) "MOST_TIES",en P 626 (.ref 337) "Web",en P 634 (.ref 348) "has_bit",en P 642 (.ref 355) "is_place",en P 651 (.ref 362) "are_two_places",en P 660 (.ref 369) "numbers_of",en P 672 (.ref 376) "near_of",en P 682 (.ref 383) "_law_at",en P 689 (.ref 390) "_law_box",en P 700 (.ref 397) "_law_take",en P 706 (.ref 402) "_law_names",en P 718 (.ref 409) "_law_web",en P 724 (.ref 414) "_law_more_ties",en P 733 (.ref 421) "_law_tied",en P 746 (.ref 428) "_law_pairs",en P 756 (.ref 435) "_law_partners",en P 767 (.ref 442) "_law_rising",en P 778 (.ref 449) "_law_unlike",en P 784 (.ref 454) "_law_part_right",en P 790 (.ref 459) "_law_parts_right",en P 799 (.ref 466) "_law_very",en P 810 (.ref 473) "_law_refused",en P 816 (.ref 478) "_law_ring",en P 839 (.ref 485) "law"] 50,#[]⟩:Obj)) ::
 (nat_lit 4,(⟨(.type "module"),(some 0),.plain,#[]⟩:Obj)) ::
 (nat_lit 34,cO 208 7 2 29 (.ref 30) .none (.ref 31) (.ref 32) 33 213 "OnceError.__init__" "__init__") ::
 (nat_lit 35,fO 194 34 jm "onceroad.errors" "OnceError.__init__" "__init__") ::
 (nat_lit 37,(⟨(.type "dict"),none,.dict #[en P 203 (.str "onceroad.errors" 194) "__module__",en P 207 (.int 5 206) "__firstlineno__",en P 215 (.ref 35) "__init__",en P 216 (.ref 36) "__static_attributes__",en P 218 (.ref 39) "__weakref__",en P 219 .none "__doc__"] 3,#[]⟩:Obj)) ::
 (nat_lit 38,(⟨(.type "type"),none,.cls { name:="OnceError",bases:=[(.type "ValueError")],mro:=[(.ref 38),(.type "ValueError"),(.type "Exception"),(.type "BaseException"),(.type "object")],ns:=37,qualname:="OnceError",hasDict:=true,slotNames:=[],subclasses:=[(.ref 58),(.ref 77),(.ref 96),(.ref 115),(.ref 134),(.ref 153),(.ref 172)],abstract:=false,collection:=none,hasDel:=false },#[(some (.ref 22)),none,(some (.str "OnceError" 196)),(some (.str "OnceError" 204)),(some (.builtin "ValueError.__new__")),(some (.bool true))]⟩:Obj)) ::
 (nat_lit 149,cO 359 36 2 144 (.ref 145) .none (.ref 146) (.ref 147) 148 364 "NoPairs.__init__" "__init__") ::
 (nat_lit 150,fO 194 149 jI "onceroad.errors" "NoPairs.__init__" "__init__") ::
 (nat_lit 152,(⟨(.type "dict"),none,.dict #[en P 354 (.str "onceroad.errors" 194) "__module__",en P 358 (.int 34 357) "__firstlineno__",en P 366 (.ref 150) "__init__",en P 368 (.ref 151) "__static_attributes__",en P 369 .none "__doc__"] 2,#[]⟩:Obj)) ::
 (nat_lit 153,(⟨(.type "type"),none,.cls { name:="NoPairs",bases:=[(.ref 38)],mro:=[(.ref 153),(.ref 38),(.type "ValueError"),(.type "Exception"),(.type "BaseException"),(.type "object")],ns:=152,qualname:="NoPairs",hasDict:=true,slotNames:=[],subclasses:=[],abstract:=false,collection:=none,hasDel:=false },#[(some (.ref 137)),none,(some (.str "NoPairs" 347)),(some (.str "NoPairs" 355)),(some (.builtin "ValueError.__new__")),(some (.bool true))]⟩:Obj)) ::
 (nat_lit 171,(⟨(.type "dict"),none,.dict #[en P 379 (.str "onceroad.errors" 194) "__module__",en P 383 (.int 39 382) "__firstlineno__",en P 391 (.ref 169) "__init__",en P 393 (.ref 170) "__static_attributes__",en P 394 .none "__doc__"] 2,#[]⟩:Obj)) ::
 (nat_lit 172,(⟨(.type "type"),none,.cls { name:="NoRow",bases:=[(.ref 38)],mro:=[(.ref 172),(.ref 38),(.type "ValueError"),(.type "Exception"),(.type "BaseException"),(.type "object")],ns:=171,qualname:="NoRow",hasDict:=true,slotNames:=[],subclasses:=[],abstract:=false,collection:=none,hasDel:=false },#[(some (.ref 156)),none,(some (.str "NoRow" 372)),(some (.str "NoRow" 380)),(some (.builtin "ValueError.__new__")),(some (.bool true))]⟩:Obj)) ::
 (nat_lit 180,cE 399 45 2 175 (.ref 176) .none (.ref 177) (.ref 178) 179 406 "are_pairs") ::
 (nat_lit 181,fE 397 180 jV "onceroad.pairs" "are_pairs") ::
 (nat_lit 187,cE 409 55 2 182 (.ref 183) .none (.ref 184) (.ref 185) 186 416 "partners_in") ::
 (nat_lit 188,fE 397 187 jB "onceroad.pairs" "partners_in") ::
 (nat_lit 194,cE 421 64 3 189 (.ref 190) .none (.ref 191) (.ref 192) 193 436 "between") ::
 (nat_lit 195,fE 419 194 jl "onceroad.rows" "between") ::
 (nat_lit 199,cE 439 76 3 196 (.ref 197) .none .none .none 198 442 "near_between") ::
 (nat_lit 200,fE 419 199 jk "onceroad.rows" "near_between") ::
 (nat_lit 204,cE 445 83 2 201 (.ref 202) .none .none .none 203 448 "walked") ::
 (nat_lit 205,fE 419 204 qaq "onceroad.rows" "walked") ::
 (nat_lit 209,cE 455 92 1 206 (.ref 207) .none .none .none 208 458 "is_name") ::
 (nat_lit 210,fE 451 209 jU "onceroad.names" "is_name") ::
 (nat_lit 223,cO 479 101 3 218 (.ref 219) .none (.ref 220) (.ref 221) 222 485 "Web.__init__" "__init__") ::
 (nat_lit 224,fO 461 223 zM "onceroad.webs" "Web.__init__" "__init__") ::
 (nat_lit 230,cO 488 106 1 225 (.ref 226) .none (.ref 227) (.ref 228) 229 492 "Web.places" "places") ::
 (nat_lit 231,fO 461 230 j4 "onceroad.webs" "Web.places" "places") ::
 (nat_lit 237,cO 495 109 1 232 (.ref 233) .none (.ref 234) (.ref 235) 236 502 "Web.ties" "ties") ::
 (nat_lit 238,fO 461 237 qbi "onceroad.webs" "Web.ties" "ties") ::
 (nat_lit 251,cO 512 120 2 246 (.ref 247) .none (.ref 248) (.ref 249) 250 517 "Web.has_place" "has_place") ::
 (nat_lit 252,fO 461 251 jx "onceroad.webs" "Web.has_place" "has_place") ::
 (nat_lit 258,cO 520 123 2 253 (.ref 254) .none (.ref 255) (.ref 256) 257 525 "Web.has_tie" "has_tie") ::
 (nat_lit 259,fO 461 258 jz "onceroad.webs" "Web.has_tie" "has_tie") ::
 (nat_lit 265,cO 528 126 2 260 (.ref 261) .none (.ref 262) (.ref 263) 264 533 "Web.number_of" "number_of") ::
 (nat_lit 266,fO 461 265 jy "onceroad.webs" "Web.number_of" "number_of") ::
 (nat_lit 272,cO 536 131 2 267 (.ref 268) .none (.ref 269) (.ref 270) 271 541 "Web.beside" "beside") ::
 (nat_lit 273,fO 461 272 j5 "onceroad.webs" "Web.beside" "beside") ::
 (nat_lit 279,cO 544 134 2 274 (.ref 275) .none (.ref 276) (.ref 277) 278 549 "Web.bits_beside" "bits_beside") ::
 (nat_lit 280,fO 461 279 qY "onceroad.webs" "Web.bits_beside" "bits_beside") ::
 (nat_lit 286,cO 552 137 3 281 (.ref 282) .none (.ref 283) (.ref 284) 285 559 "Web.tied" "tied") ::
 (nat_lit 287,fO 461 286 zN "onceroad.webs" "Web.tied" "tied") ::
 (nat_lit 305,cO 576 147 2 302 (.ref 303) .none .none .none 304 579 "Web.names_in" "names_in") ::
 (nat_lit 306,fO 461 305 jh "onceroad.webs" "Web.names_in" "names_in") ::
 (nat_lit 336,(⟨(.type "dict"),none,.dict #[en P 474 (.str "onceroad.webs" 461) "__module__",en P 478 (.int 99 477) "__firstlineno__",en P 487 (.ref 224) "__init__",en P 494 (.ref 231) "places",en P 504 (.ref 238) "ties",en P 511 (.ref 245) "how_many",en P 519 (.ref 252) "has_place",en P 527 (.ref 259) "has_tie",en P 535 (.ref 266) "number_of",en P 543 (.ref 273) "beside",en P 551 (.ref 280) "bits_beside",en P 561 (.ref 287) "tied",en P 568 (.ref 294) "pieces",en P 575 (.ref 301) "told",en P 581 (.ref 306) "names_in",en P 589 (.ref 313) "without",en P 597 (.ref 320) "with_place",en P 606 (.ref 327) "with_tie",en P 615 (.ref 334) "without_tie",en P 619 (.ref 335) "__static_attributes__",en P 621 (.ref 338) "__dict__",en P 623 (.ref 339) "__weakref__",en P 624 .none "__doc__"] 4,#[]⟩:Obj)) ::
 (nat_lit 337,(⟨(.type "type"),none,.cls { name:="Web",bases:=[(.type "object")],mro:=[(.ref 337),(.type "object")],ns:=336,qualname:="Web",hasDict:=true,slotNames:=[],subclasses:=[],abstract:=false,collection:=none,hasDel:=false },#[none,none,(some (.str "Web" 467)),(some (.str "Web" 475)),(some (.builtin "object.__new__")),(some (.bool true))]⟩:Obj)) ::
 (nat_lit 347,cE 627 161 2 342 (.ref 343) .none (.ref 344) (.ref 345) 346 632 "has_bit") ::
 (nat_lit 348,fE 461 347 qak "onceroad.webs" "has_bit") ::
 (nat_lit 354,cE 635 163 2 349 (.ref 350) .none (.ref 351) (.ref 352) 353 640 "is_place") ::
 (nat_lit 355,fE 461 354 zf "onceroad.webs" "is_place") ::
 (nat_lit 361,cE 643 165 2 356 (.ref 357) .none (.ref 358) (.ref 359) 360 649 "are_two_places") ::
 (nat_lit 362,fE 461 361 qP "onceroad.webs" "are_two_places") ::
 (nat_lit 368,cE 652 170 1 363 (.ref 364) .none (.ref 365) (.ref 366) 367 658 "numbers_of") ::
 (nat_lit 369,fE 461 368 j3 "onceroad.webs" "numbers_of") ::
 (nat_lit 375,cE 661 183 2 370 (.ref 371) .none (.ref 372) (.ref 373) 374 670 "near_of") ::
 (nat_lit 376,fE 461 375 qal "onceroad.webs" "near_of") ::
 (nat_lit 382,cE 675 200 2 377 (.ref 378) .none (.ref 379) (.ref 380) 381 680 "_law_at") ::
 (nat_lit 383,fE 673 382 qdd "law_onceroad_k24_between_two_pairs" "_law_at") ::
 (nat_lit 389,cE 683 204 1 384 (.ref 385) .none (.ref 386) (.ref 387) 388 687 "_law_box") ::
 (nat_lit 390,fE 673 389 qbx "law_onceroad_k24_between_two_pairs" "_law_box") ::
 (nat_lit 396,cE 690 206 2 391 (.ref 392) .none (.ref 393) (.ref 394) 395 698 "_law_take") ::
 (nat_lit 397,fE 673 396 qaM "law_onceroad_k24_between_two_pairs" "_law_take") ::
 (nat_lit 401,cE 701 216 2 398 (.ref 399) .none .none .none 400 704 "_law_names") ::
 (nat_lit 402,fE 673 401 jW "law_onceroad_k24_between_two_pairs" "_law_names") ::
 (nat_lit 408,cE 707 233 2 403 (.ref 404) .none (.ref 405) (.ref 406) 407 716 "_law_web") ::
 (nat_lit 409,fE 673 408 qbz "law_onceroad_k24_between_two_pairs" "_law_web") ::
 (nat_lit 413,cE 719 241 3 410 (.ref 411) .none .none .none 412 722 "_law_more_ties") ::
 (nat_lit 414,fE 673 413 jC "law_onceroad_k24_between_two_pairs" "_law_more_ties") ::
 (nat_lit 427,cE 734 250 2 422 (.ref 423) .none (.ref 424) (.ref 425) 426 744 "_law_pairs") ::
 (nat_lit 428,fE 673 427 qap "law_onceroad_k24_between_two_pairs" "_law_pairs") ::
 (nat_lit 434,cE 747 261 1 429 (.ref 430) .none (.ref 431) (.ref 432) 433 754 "_law_partners") ::
 (nat_lit 435,fE 673 434 j6 "law_onceroad_k24_between_two_pairs" "_law_partners") ::
 (nat_lit 448,cE 768 274 3 443 (.ref 444) .none (.ref 445) (.ref 446) 447 776 "_law_unlike") ::
 (nat_lit 449,fE 673 448 zP "law_onceroad_k24_between_two_pairs" "_law_unlike") ::
 (nat_lit 453,cE 779 280 4 450 (.ref 451) .none .none .none 452 782 "_law_part_right") ::
 (nat_lit 454,fE 673 453 qI "law_onceroad_k24_between_two_pairs" "_law_part_right") ::
 (nat_lit 458,cE 785 303 5 455 (.ref 456) .none .none .none 457 788 "_law_parts_right") ::
 (nat_lit 459,fE 673 458 qW "law_onceroad_k24_between_two_pairs" "_law_parts_right") ::
 (nat_lit 465,cE 791 318 2 460 (.ref 461) .none (.ref 462) (.ref 463) 464 797 "_law_very") ::
 (nat_lit 466,fE 673 465 qas "law_onceroad_k24_between_two_pairs" "_law_very") ::
 (nat_lit 472,cE 800 327 4 467 (.ref 468) .none (.ref 469) (.ref 470) 471 808 "_law_refused") ::
 (nat_lit 473,fE 673 472 zw "law_onceroad_k24_between_two_pairs" "_law_refused") ::
 (nat_lit 477,cE 811 333 1 474 (.ref 475) .none .none .none 476 814 "_law_ring") ::
 (nat_lit 478,fE 673 477 zx "law_onceroad_k24_between_two_pairs" "_law_ring") ::
 (nat_lit 484,cE 817 340 1 479 (.ref 480) .none (.ref 481) (.ref 482) 483 837 "law") ::
 (nat_lit 485,fE 673 484 qcG "law_onceroad_k24_between_two_pairs" "law") ::
 []
noncomputable def ks:LI:=[1,2,3,4,34,35,37,38,149,150,152,153,171,172,180,181,187,188,194,195,199,200,204,205,209,210,223,224,230,231,237,238,251,252,258,259,265,266,272,273,279,280,286,287,305,306,336,337,347,348,354,355,361,362,368,369,375,376,382,383,389,390,396,397,401,402,408,409,413,414,427,428,434,435,448,449,453,454,458,459,465,466,472,473,477,478,484,485]
theorem ks_eq:∀ P,ks=(Kf P).map (·.1):=fun P=>by kernel_rfl
noncomputable abbrev Hk:Hook:=L2.hookT Kf ks ks_eq 190 (tabObj #[])
noncomputable abbrev Xt(s:Shared):Bool:=xlAt Q [] s&&recOk [] s
noncomputable abbrev sn(s:Shared):=openSeen Q [] (importedModules PySem.Challenge.pw_onceroad_k24_between_two_pairs.main.body) Xt true s
noncomputable def runA(w:World)(a:OsState):=(Hd.lookS PySem.Challenge.pw_onceroad_k24_between_two_pairs NN w a).map fun s=>((sn s).1,(sn s).2.1,(sn s).2.2.1,(sn s).2.2.2.1)
noncomputable def runB(w:World)(a:OsState):=(Hd.lookS PySem.Challenge.pw_onceroad_k24_between_two_pairs NN w a).map fun s=>(sn s).2.2.2.2
noncomputable def runC(w:World)(a:OsState):=(Hd.lookS PySem.Challenge.pw_onceroad_k24_between_two_pairs NN w a).map fun s=>(190::ks).map s.heap.get?
noncomputable def gdA(_:World)(_:OsState):=some ((openGood Q []).1,(openGood Q []).2.1,(openGood Q []).2.2.1,(openGood Q []).2.2.2.1)
noncomputable def gdB(_:World)(_:OsState):=some (openGood Q []).2.2.2.2
noncomputable def gdC(w:World)(_:OsState):=some (some (tabObj #[])::(Kf w.params).map fun p=>some p.2)
noncomputable def tag{a:Type}(f g:World->OsState->a):Bool:=true
theorem tag1:(tag runA gdA&&(tag runB gdB&&tag runC runC))=true:=by k_qdec
theorem hA1(w:World)(a:OsState):runA w a=gdA w a:=by
 rw[PySem.W.Fast.te13982799071139363503,PySem.W.Fast.te5715958717016297025]
 kernel_rfl
theorem hB1(w:World)(a:OsState):runB w a=gdB w a:=by
 rw[PySem.W.Fast.te16925664142454522876,PySem.W.Fast.te4665572482610570542]
 kernel_rfl
theorem hC1(w:World)(a:OsState):runC w a=gdC w a:=by
 rw[PySem.W.Fast.te15021358527685504917]
 kernel_rfl
theorem hl:LeftO PySem.Challenge.pw_onceroad_k24_between_two_pairs Q [] Xt (Hook.obs Hk) (Hook.val Hk) NN:=Hd.left_of (by kernel_rfl) (by decide) (fun s=>by kernel_rfl) fun w a=>(Hd.lookT_map ..).trans (Hd.packs (hA1 w a) (hB1 w a) (hC1 w a))
end K24
namespace L2
open PySem PySem.Spec PyProof.Rows
variable{A:Around}{C a b it:Addr}{CX:CXT}{D:Ends}{E:Value->Shared->Prop}{H:Hp}{M:Model}{N ps:LS}{P:Program}{X:Cx}{base h:Heap}{body:List Stmt}{c e tg:Expr}{ch fp:LI}{d':Drawn}{es:List Expr}{f:Value->Value->Sem Value}{g:TG}{g':Array GenState}{i j n t':Nat}{kindOf:Str->Option NameKind}{kw:List (Str×Value)}{lo:Int}{mA mg:Str->Option Value}{o:HO}{op op':CmpOp}{outer:List Env}{pins:List (Addr×Obj)}{pl:Sem Bool}{qual x:Str}{r r':R2}{s s':Shared}{sc scope:Scope}{t te:TE}{tb:TS}{tc:TT}{u:Value}{us:List Value}{v y:V}{vs xs:List V}{w:World}{α:Type}{σ:St}
noncomputable abbrev Key:=Sum Int Str
noncomputable def qcm:Key->Value->Bool
 | .inl k,v=>Value.isInt k v
 | .inr x,v=>Value.isStrOf x v
noncomputable def keyH(w:World):Key->Int
 | .inl k=>hashInt k
 | .inr x=>hashStr w x
theorem qH:∀{k:Key} {v:Value},qcm k v=true->(∃ i t,k=Sum.inl i/\v=Value.int i t)\/(∃ x t,k=Sum.inr x/\v=Value.str x t)
 | .inl i,v,h=>by
  obtain⟨t,e⟩:=Value.isInt_shape (k:=i) (v:=v) h;show .inl ⟨i,t,rfl,e⟩
 | .inr x,v,h=>by
  obtain⟨t,e⟩:=Value.isStrOf_shape (x:=x) (v:=v) h;show .inr ⟨x,t,rfl,e⟩
theorem keyIs_int(i:Int)(t:Tok):qcm (.inl i) (.int i t)=true:=by simp[qcm,Value.isInt]
theorem keyIs_str(x:Str)(t:Tok):qcm (.inr x) (.str x t)=true:=by simp[qcm,Value.isStrOf]
theorem key_ll(a b:Int):decide ((Sum.inl a:Key)=Sum.inl b)=(a==b):=by
 by_cases e:a=b
 .subst e;simp
 .have h:¬ (Sum.inl a:Key)=Sum.inl b:=fun q=>e (Sum.inl.inj q);rw[yl h];show(Yr.mpr e).symm
theorem key_rr(a b:Str):decide ((Sum.inr a:Key)=Sum.inr b)=decide (a=b):=by
 by_cases e:a=b
 .subst e;simp
 .have h:¬ (Sum.inr a:Key)=Sum.inr b:=fun q=>e (xY q);rw[yl h,yl e]
theorem key_lr(a:Int)(b:Str):decide ((Sum.inl a:Key)=Sum.inr b)=false:=yl (fun q=>nomatch q)
theorem key_rl(a:Str)(b:Int):decide ((Sum.inr a:Key)=Sum.inl b)=false:=yl (fun q=>nomatch q)
noncomputable def q8(prog:Program)(w:World):PySem.KeyKind prog w Key where
 is:=qcm
 hash:=keyH w
 inj:=fun v a b c hb=>by
  rcases qH c with⟨i,t,rfl,rfl⟩ | ⟨x,t,rfl,rfl⟩
  .rcases qH hb with⟨j,u,rfl,e⟩ | ⟨y,u,rfl,e⟩
   .injection e with e1 _;rw[e1]
   .show nomatch e
  .rcases qH hb with⟨j,u,rfl,e⟩ | ⟨y,u,rfl,e⟩
   .show nomatch e
   .injection e with e1 _;rw[e1]
 byValue:=fun k v h=>by
  rcases qH h with⟨i,t,rfl,rfl⟩ | ⟨x,t,rfl,rfl⟩<;>rfl
 pyHash:=fun hv h=>by
  rcases qH hv with⟨i,t,rfl,rfl⟩ | ⟨x,t,rfl,rfl⟩
  .show wpAny_pyHash_int h
  .show wpAny_pyHash_str h
 eqBool:=fun d hv h=>by
  rcases qH d with⟨i,t,rfl,rfl⟩ | ⟨x,t,rfl,rfl⟩
  .rcases qH hv with⟨j,u,rfl,rfl⟩ | ⟨y,u,rfl,rfl⟩
   .rw [key_ll] at h;show wpAny_eqBool_int h
   .rw [key_lr] at h;show SeqAt.EqAt.int_str i t y u _ _ _ _ h
  .rcases qH hv with⟨j,u,rfl,rfl⟩ | ⟨y,u,rfl,rfl⟩
   .rw [key_rl] at h;show SeqAt.EqAt.str_int x t j u _ _ _ _ h
   .rw [key_rr] at h;show wpAny_eqBool_str h
 «strs»:=fun k x t v h=>by
  rcases qH h with⟨i,u,rfl,e⟩ | ⟨y,u,rfl,e⟩
  .show nomatch e
  .injection e with e1 _
   subst e1;cases v<;>rfl
theorem mixKind_int(prog:Program)(w:World)(i:Int)(t:Tok):(q8 prog w).is (.inl i) (.int i t)=true:=keyIs_int i t
theorem mixKind_str(prog:Program)(w:World)(x:Str)(t:Tok):(q8 prog w).is (.inr x) (.str x t)=true:=keyIs_str x t
inductive V where
 | non | bl (b:Bool) | int (i:Int) | str (x:Str) | byt (b:Array UInt8) | flt (b:UInt64) | ref (a:Addr) | ty (n:String)
 deriving DecidableEq
def RelV:V->Value->Prop
 | .non,u=>u=Value.none
 | .bl b,u=>u=Value.bool b
 | .int i,u=>∃ t,u=Value.int i t
 | .str x,u=>∃ t,u=Value.str x t
 | .byt b,u=>∃ t,u=Value.bytes b t
 | .flt b,u=>∃ t,u=Value.float b t
 | .ref a,u=>u=Value.ref a
 | .ty n,u=>u=Value.type n
abbrev Vals:List V->List Value->Prop:=Paired RelV
theorem Vals.length(r:Vals xs us):xs.length=us.length:=Paired.length r
theorem Vals.get:∀{xs:List V} {us:List Value} {i:Nat} {x:V},Vals xs us->xs[i]?=some x->∃ u,us[i]?=some u/\RelV x u
 | _,_,_,_,.nil,e=>by simp at e
 | _,_,0,_,.cons r _,e=>by simp at e;subst e;show⟨_,rfl,r⟩
 | _,_,i+1,x,.cons _ t,e=>by
  obtain⟨u,h1,a⟩:=Vals.get (i:=i) (x:=x) t (by simpa using e);show⟨u,by simpa using h1,a⟩
theorem Vals.set{x:V}(r:RelV x u):∀{xs:List V} {us:List Value} (i:Nat),Vals xs us->Vals (xs.set i x) (us.set i u)
 | _,_,_,.nil=>.nil
 | _,_,0,.cons _ t=>.cons r t
 | _,_,i+1,.cons q t=>.cons q (Vals.set r i t)
theorem Vals.append:∀{xs b:List V} {us a:List Value},Vals xs us->Vals b a->Vals (xs++b) (us++a)
 | _,_,_,_,.nil,s=>s
 | _,_,_,_,.cons r t,s=>.cons r (Vals.append t s)
theorem Vals.take:∀{xs:List V} {us:List Value} (n:Nat),Vals xs us->Vals (xs.take n) (us.take n)
 | _,_,0,_=>.nil
 | _,_,_+1,.nil=>.nil
 | _,_,n+1,.cons r t=>.cons r (Vals.take n t)
theorem Vals.drop:∀{xs:List V} {us:List Value} (n:Nat),Vals xs us->Vals (xs.drop n) (us.drop n)
 | _,_,0,r=>r
 | _,_,_+1,.nil=>.nil
 | _,_,n+1,.cons _ t=>Vals.drop n t
theorem Vals.none_of:∀{xs:List V} {us:List Value} {i:Nat},Vals xs us->xs[i]?=none->us[i]?=none:=fun{xs us i} r e=>by
 have h1:=r.length;have a:xs.length<=i:=List.getElem?_eq_none_iff.mp e;show List.getElem?_eq_none_iff.mpr (by lk)
def RelO:Option V->Option Value->Prop
 | some v,some u=>RelV v u
 | none,none=>True
 | _,_=>False
def KV{a:Type}:List (a×V)->List (a×Value)->Prop:=Paired fun(p:a×V) (q:a×Value)=>p.1=q.1/\RelV p.2 q.2
noncomputable def kV:Key->V
 | .inl i=>.int i
 | .inr x=>.str x
inductive HO where
 /-- a list -/
 | lst (xs:List V)
 /-- a tuple (never changes) -/
 | tup (xs:List V)
 /-- a dict whose keys are ints and texts;one whose keys are tuples of ints and texts (the empty one is both) -/
 | dK (kvs:List (Key×V)) | dT (kvs:List (List Key×V))
 /-- a set of ints: its members,its size -/
 | set (S:Int->Bool) (n:Nat)
 /-- an instance of the class at C,its dict at dx,its attributes -/
 | ins (C dx:Addr) (fs:List (Str×V))
 /-- the dict of the instance at x -/
 | own (x:Addr)
 /-- the dict of an exception -/
 | xd (fs:List (Str×V))
 /-- a bound method,f of x -/
 | met (f x:Addr)
 /-- a range object lo,lo+1,.. below hi -/
 | rng (lo hi:Int)
 /-- a thing that is known to the object (the script;a dict while a loop walks it): read,never written while it is so -/
 | frz (o:Obj) (u:HO)
 /-- a code object's table -/
 | tbl (ps:Array Value)
 /-- any other thing,by what is true of its one object (a def of one's own: SetO a S n:=HO.ext fun h=>..) -/
 | ext (φ:Heap->Prop)
noncomputable abbrev Hp:=Addr->Option HO
noncomputable def upd(H:Hp)(a:Addr)(o:HO):Hp:=fun b=>if b=a then some o else H b
theorem qc:upd H a o a=some o:=by unfold upd;rw[yG rfl]
theorem qh(h:b≠a):upd H a o b=H b:=by unfold upd;rw[yB h]
theorem jD{u:HO}(h:H a=some o)(h':H b=some u)(d:o≠u):a≠b:=by
 intro e;subst e;rw[h] at h';show d (ym h')
theorem qC(h:H a=some o)(h':H b=none):a≠b:=by
 intro e;subst e;rw[h] at h';cases h'
section
variable(P:Program)(w:World)
def ObjOk(H:Hp)(h:Heap)(a:Addr):HO->Prop
 | .lst xs=>xs.length<=sizeLine/\∃(b:List Value) (n:Nat),Vals xs b/\h.get? a=some { cls:=.type "list",data:=.seq b.toArray n }
 | .tup xs=>xs.length<=sizeLine/\∃ b:List Value,Vals xs b/\IsTup h a b.toArray
 | .dK kvs=>kvs.length<=sizeLine/\(a==sysModules)=false/\∃ vs,KV kvs vs/\h.DictOf (q8 P w) a vs
 | .dT kvs=>kvs.length<=sizeLine/\(a==sysModules)=false/\∃ xs:List (List Key×Addr×Value),
   Paired (fun(p:List Key×V) (q:List Key×Addr×Value)=>p.1=q.1/\H q.2.1=some (.tup (p.1.map kV))/\RelV p.2 q.2.2) kvs xs /\
   ∃ o es ep,h.get? a=some o/\o.ExactDict/\o.data=.dict es ep/\es.toList=xs.map (entryOfKey (tupleKind (q8 P w)))/\(xs.map (·.1)).Nodup
 | .set S n=>h.SetOf (intKind P w) a S n
 | .ins C dx fs=>H dx=some (.own a)/\fs.length<=1000/\dx≠a/\h.get? a=some (PySem.W.instObj C dx) /\
   ∃ mA,h.Ns1 dx mA/\(∀ f,RelO (fs.lookup f) (mA f))/\PySem.Within mA (fs.map (·.1))
 | .own _=>∃ o,h.get? a=some o
 | .xd fs=>∃ mA,h.Ns1 a mA/\∀ f,RelO (fs.lookup f) (mA f)
 | .rng lo hi=>∃ t u v,h.get? a=some { cls:=.type "range",data:=.fields #[.int lo t,.int hi u,.int 1 v] }
 | .frz o u=>h.get? a=some o/\ObjOk H h a u
 | .tbl ps=>h.get? a=some { cls:=.none,data:=.fields ps }
 | .met f x=>h.get? a=some (PySem.W.methodObj (.ref f) (.ref x))
 | .ext φ=>φ h/\(∃ o,h.get? a=some o)/\∀ h1 c:Heap,φ h1->(∀ o,h1.get? a=some o->c.get? a=some o)->φ c
def HOk(H:Hp)(h:Heap):Prop:=∀ a o,H a=some o->ObjOk P w H h a o
end
section
variable{P:Program}{w:World}{H H':Hp}{h h':Heap}{a:Addr}{o:HO}
theorem ObjOk.lt(x:ObjOk P w H h a o):a<h.objs.size:=by
 cases o with
 | lst xs=>obtain⟨_,_,_,_,e⟩:=x;show yF e
 | tup xs=>obtain⟨_,_,_,p⟩:=x;show p.lt
 | dK kvs=>obtain⟨_,_,_,_,o,_,_,e,_⟩:=x;show yF e
 | dT kvs=>obtain⟨_,_,_,_,o,_,_,e,_⟩:=x;show yF e
 | set S n=>obtain⟨o,_,_,_,e,_⟩:=x;show yF e
 | ins C dx fs=>obtain⟨_,_,_,e,_⟩:=x;show yF e
 | own y=>obtain⟨_,e⟩:=x;show yF e
 | xd fs=>obtain⟨_,⟨_,_,_,e,_⟩,_⟩:=x;show yF e
 | rng lo hi=>obtain⟨_,_,_,e⟩:=x;show yF e
 | frz ob u=>obtain⟨e,_⟩:=x;show yF e
 | tbl ps=>show yF (show h.get? a=some _ from x)
 | met f y=>show yF (show h.get? a=some _ from x)
 | ext φ=>obtain⟨_,⟨_,e⟩,_⟩:=x;show yF e
theorem Paired.mapP{c:Type}{F G:α->c->Prop}:∀{l₁:List α} {l₂:List c},Paired F l₁ l₂->(∀ a b,F a b->G a b)->Paired G l₁ l₂
 | _,_,.nil,_=>.nil
 | _,_,.cons r t,f=>.cons (f _ _ r) (Paired.mapP t f)
theorem ObjOk.stay(x:ObjOk P w H h a o)(k:∀ b u,(b=a\/H b=some (.own a))->h.get? b=some u->h'.get? b=some u)
  (l:∀ b,H b=some (.own a)->H' b=some (.own a)) (m:∀ b xs,H b=some (.tup xs)->H' b=some (.tup xs)):ObjOk P w H' h' a o:=by
 induction o with
 | lst xs=>obtain⟨z,i,n,r,e⟩:=x;show⟨z,i,n,r,k _ _ (.inl rfl) e⟩
 | tup xs=>obtain⟨z,i,r,g,e,c⟩:=x;show⟨z,i,r,g,k _ _ (.inl rfl) e,c⟩
 | dK kvs=>obtain⟨z,y,vs,r,g,es,ep,e,c⟩:=x;show⟨z,y,vs,r,g,es,ep,k _ _ (.inl rfl) e,c⟩
 | dT kvs =>
  obtain⟨z,y,xs,r,g,es,ep,e,c⟩:=x;show⟨z,y,xs,Paired.mapP r fun p q z=>⟨z.1,m _ _ z.2.1,z.2.2⟩,g,es,ep,k _ _ (.inl rfl) e,c⟩
 | set S n=>obtain⟨g,es,ep,t,e,c⟩:=x;show⟨g,es,ep,t,k _ _ (.inl rfl) e,c⟩
 | ins C dx fs =>
  obtain⟨d,z,ne,e,mA,⟨od,es,ep,j,c⟩,r⟩:=x;show⟨l _ d,z,ne,k _ _ (.inl rfl) e,mA,⟨od,es,ep,k _ _ (.inr d) j,c⟩,r⟩
 | own y=>obtain⟨g,e⟩:=x;show⟨g,k _ _ (.inl rfl) e⟩
 | xd fs=>obtain⟨mA,⟨od,es,ep,e,c⟩,r⟩:=x;show⟨mA,⟨od,es,ep,k _ _ (.inl rfl) e,c⟩,r⟩
 | rng lo hi=>obtain⟨t,u,v,e⟩:=x;show⟨t,u,v,k _ _ (.inl rfl) e⟩
 | frz g u ih=>obtain⟨e,q⟩:=x;show⟨k _ _ (.inl rfl) e,ih q⟩
 | tbl ps =>
  have e:h.get? a=some { cls:=.none,data:=.fields ps }:=x;show h'.get? a=some { cls:=.none,data:=.fields ps };show k a _ (.inl rfl) e
 | met f y =>
  have e:h.get? a=some (PySem.W.methodObj (.ref f) (.ref y)):=x;show h'.get? a=some (PySem.W.methodObj (.ref f) (.ref y));show k a _ (.inl rfl) e
 | ext φ=>obtain⟨p,⟨o,e⟩,st⟩:=x;show⟨st _ _ p fun o q=>k _ _ (.inl rfl) q,⟨o,k _ _ (.inl rfl) e⟩,st⟩
theorem HOk.lt(x:HOk P w H h)(e:H a=some o):a<h.objs.size:=(x a o e).lt
theorem HOk.fresh(x:HOk P w H h)(e:h.objs.size<=a):H a=none:=by
 cases q:H a with
 | none=>rfl
 | some u=>show absurd (yj (x.lt q) e) (Yd _)
theorem HOk.kept(x:HOk P w H h)(k:∀ b u,h.get? b=some u->h'.get? b=some u):HOk P w H h':=fun a o e =>
 (x a o e).stay (fun b u _ q=>k b u q) (fun _ q=>q) fun _ _ q=>q
theorem HOk.laid(x:HOk P w H h)(k:∀ b u,h.get? b=some u->h'.get? b=some u)(f:h.objs.size<=a)(new:ObjOk P w (upd H a o) h' a o):HOk P w (upd H a o) h':=fun b u e=>by
 have d:=x.fresh f;by_cases hb:b=a
 .subst hb;rw[qc] at e;cases e;show new
 .rw [qh hb] at e;show(x b u e).stay (fun c v _ q=>k c v q) (fun c q=>by rw[qh (qC q d)];show q) fun c xs q=>by rw[qh (qC q d)];show q
end
def Rd(H:Hp)(a:Addr)(u:HO):Prop:=H a=some u\/∃ o,H a=some (.frz o u)
theorem Rd.ok{u:HO}(r:Rd H a u)(x:HOk P w H h):ObjOk P w H h a u:=by
 rcases r with r | ⟨o,r⟩
 .show x a u r
 .obtain⟨_,q⟩:=x a _ r;show q
def Mut:Option HO->Prop
 | some (.lst _)=>True
 | some (.dK _)=>True
 | some (.dT _)=>True
 | some (.set _ _)=>True
 | some (.ins _ _ _)=>True
 | some (.ext _)=>True
 | _=>False
section
variable{P:Program}{w:World}{H:Hp}{h h':Heap}{x e:Addr}{o':HO}
theorem HOk.write(ok:HOk P w H h)(g:Mut (H x))(j:e=x\/H e=some (.own x))(k:∀ b u,b≠e->h.get? b=some u->h'.get? b=some u)(i:∃ u,h'.get? e=some u)
  (new:ObjOk P w (upd H x o') h' x o'):HOk P w (upd H x o') h':=fun b u q=>by
 have d:∀ c y,H c=some (.own y)->c≠x:=fun c y r z=>by subst z;rw[r] at g;show g
 have f:∀ c xs,H c=some (.tup xs)->c≠x:=fun c xs r z=>by subst z;rw[r] at g;show g
 by_cases hb:b=x
 .subst hb;rw[qc] at q;cases q;show new
 .rw [qh hb] at q;by_cases a:b=e
  .have l:H b=some (.own x):=by
    rcases j with z | z
    .show absurd (a.trans z) hb
    .rw [a];show z
   rw[q] at l;cases l;obtain⟨v,hv⟩:=i;show⟨v,by rw[a];show hv⟩
  .show(ok b u q).stay (fun c v hc r=>k c v ?_ r) (fun c r=>by rw[qh (d c b r)];show r) fun c xs r=>by rw[qh (f c xs r)];show r
   rcases hc with rfl | hc
   .show a
   .rintro rfl;rcases j with z | z
    .show d c b hc z
    .rw [hc] at z;cases z;show hb rfl
end
structure Un(fs ex:LI)(H H':Hp)(h h':Heap):Prop where
 keep:∀ b o,h.get? b=some o->H b=none->b∉fs->b∉ex->h'.get? b=some o
 slot:∀ b o,h.get? b=some o->H b=none->b∈fs->b∉ex->∃ sl,h'.get? b=some { o with slots:=sl }
 free:∀ b o,h.get? b=some o->H b=none->b∉ex->H' b=none
 there:∀ b o,h.get? b=some o->b∉ex->∃ o',h'.get? b=some o'
 tups:∀ b xs,H b=some (.tup xs)->H' b=some (.tup xs)
 frzs:∀ b o u,H b=some (.frz o u)->H' b=some (.frz o u)
 tbls:∀ b ps,H b=some (.tbl ps)->∃ more,H' b=some (.tbl (ps++more))
section
variable{fs fs' ex ex':LI}{H H1 H2:Hp}{h h1 h2 h':Heap}{a x e:Addr}{o:HO}
theorem Un.any(u:Un fs ex H H1 h h1){a:Obj}(q:h.get? b=some a)(n:H b=none)(c:b∉ex):∃ d,h1.get? b=some { a with slots:=d }:=by
 by_cases hb:b∈fs
 .show u.slot b a q n hb c
 .show⟨a.slots,u.keep b a q n hb c⟩
theorem Un.kept(k:∀ b u,h.get? b=some u->h'.get? b=some u):Un fs ex H H h h':=
 ⟨fun b a q _ _ _=>k b a q,fun b a q _ _ _=>⟨a.slots,k b a q⟩,fun _ _ _ n _=>n,fun b a q _=>⟨a,k b a q⟩,fun _ _ q=>q,fun _ _ _ q=>q,fun _ ps q=>⟨#[],by rw[q];simp⟩⟩
theorem Un.refl:Un fs ex H H h h:=Un.kept fun _ _ q=>q
theorem Un.laid(k:∀ b u,h.get? b=some u->h'.get? b=some u)(d:h.objs.size<=a)(c:H a=none):Un fs ex H (upd H a o) h h' where
 keep:=fun b u q _ _ _=>k b u q
 slot:=fun b u q _ _ _=>⟨u.slots,k b u q⟩
 free:=fun b u q n _=>by rw[qh (yN (yj (yF q) d))];show n
 there:=fun b u q _=>⟨u,k b u q⟩
 tups:=fun b xs q=>by rw[qh (qC q c)];show q
 frzs:=fun b u xs q=>by rw[qh (qC q c)];show q
 tbls:=fun b ps q=>⟨#[],by rw[qh (qC q c),q];simp⟩
theorem Un.write(c:Mut (H x))(i:e=x\/H e=some (.own x))(k:∀ b u,b≠e->h.get? b=some u->h'.get? b=some u)(d:∃ u,h'.get? e=some u):Un fs ex H (upd H x o) h h':=by
 have g:∀ b,H b=none->b≠x:=fun b n z=>by subst z;rw[n] at c;show c
 have hb:∀ b,H b=none->b≠e:=fun b n z=>by
  subst z;rcases i with r | r
  .show g b n r
  .rw [n] at r;cases r
 have f:∀ b u,H b=some u->¬ Mut (some u)->b≠x:=fun b u q j z=>by subst z;rw[q] at c;show j c
 show⟨fun b u q n _ _=>k b u (hb b n) q,fun b u q n _ _=>⟨u.slots,k b u (hb b n) q⟩,fun b u q n _=>by rw[qh (g b n)];show n,fun b u q _=>?_,
  fun b xs q=>by rw[qh (f b _ q fun z=>z)];show q,fun b u xs q=>by rw[qh (f b _ q fun z=>z)];show q,fun b ps q=>⟨#[],by rw[qh (f b _ q fun z=>z),q];simp⟩⟩
 by_cases a:b=e
 .subst a;show d
 .show⟨u,k b u a q⟩
end
noncomputable def trk(h:Heap)(H:Hp):LI:=(List.range h.objs.size).filter fun a=>(H a).isSome
noncomputable def qcI(h:Heap)(H:Hp):Heap:=PySem.W.hideAll h (trk h H)
theorem qbJ(h:Heap)(H:Hp):(qcI h H).objs.size=h.objs.size:=PySem.W.hideAll_size _ _
theorem qcJ{o:Obj}(e:h.get? b=some o)(n:H b=none):(qcI h H).get? b=some o:=
 PySem.W.hideAll_get _ e fun a=>by
  have q:(H b).isSome=true:=(yp.mp a).2;rw[n] at q;simp at q
theorem qdw{o:Obj}(e:(qcI h H).get? b=some o):h.get? b=some o/\H b=none:=by
 have a:h.get? b=some o:=PySem.W.of_hideAll (trk h H) e;show⟨a,?_⟩
 cases q:H b with
 | none=>rfl
 | some x =>
  have c:b∈trk h H:=yp.mpr ⟨yV.mpr (yF a),by simp[q]⟩;have z:(qcI h H).get? b=none:=PySem.W.hideAll_none (trk h H) c;rw[z] at e;cases e
noncomputable def allNews(g h:Heap)(L:Addr):List (Addr×Obj):=(List.range h.objs.size).filterMap fun a=>if a=L\/(g.get? a).isSome=true then none else(h.get? a).map fun o=>(a,o)
noncomputable def rest(g h:Heap)(L d:Addr):List (Addr×Obj):=(allNews g h L).filter fun p=>decide (p.1≠d)
structure Mod(K:yg)(mg:Str->Option Value)(base:Heap):Prop where
 kin:K.In base
 glob:base.Ns mainGlobals mg
 blt:∃ mb,base.Ns builtinsNs mb/\∀ x:Str,x≠"__name__"->mb x=bootBuiltins x
 nolimit:base.NoLimit
structure Cx where
 prog:Program
 w:World
 K:yg
 mg:Str->Option Value
 base:Heap
 A:Around
 N:LS
 s₀:Shared
 H₀:Hp
 env:Env
 outer:List Env
 stack:List Env
 ex:LI
 fn:Str->Bool
 calm:Bool
 pn:List (Addr×Obj)
 xe:Value->Shared->Prop
noncomputable def frs(l:List Env):LI:=l.filterMap (·.frame)
noncomputable abbrev Cx.fs(X:Cx):LI:=frs X.outer
def Vis(sc:Scope)(x:Str):Prop:=sc.names.lookup x=some .local\/sc.names.lookup x=some .cell\/sc.names.lookup x=some .free
def Loc(sc:Scope)(x:Str):Prop:=sc.names.lookup x=some .local\/sc.names.lookup x=some .cell
def Look(env:Env)(h:Heap)(m:Str->Option Value)(x:Str)(u:Value):Prop:=
 (env.kindOf x=some .local/\m x=some u)\/((env.kindOf x=some .cell\/env.kindOf x=some .free)/\∃ c,env.cells.lookup x=some c/\h.IsCell c (some u))
structure Cx.Ok(X:Cx):Prop where
 mod:Mod X.K X.mg X.base
 kind:X.env.scope.kind=.function
 glob:X.env.globals=mainGlobals
 blt:X.env.builtins=builtinsNs
 above:X.s₀.heap.objs.size<=X.env.locals
 inj:∀ x y c,X.env.cells.lookup x=some c->X.env.cells.lookup y=some c->x=y
 has:∀ x,(X.env.kindOf x=some .cell\/X.env.kindOf x=some .free)->∃ c,X.env.cells.lookup x=some c
 cab:∀ x c,X.fn x=true->X.env.cells.lookup x=some c->X.s₀.heap.objs.size<=c
 hd:X.calm=true->X.A.handled=none
 frames:X.A.frames=some X.stack
 stk:X.stack=X.outer\/(X.stack=X.env::X.outer/\X.env.frame=some X.env.locals)
 exf:∀ b∈X.ex,b≠X.env.locals/\∀ x c,X.env.cells.lookup x=some c->c≠b
 bs:∀ b o,X.base.get? b=some o->X.s₀.heap.get? b=some o/\X.H₀ b=none
 bsz:X.base.objs.size<=X.s₀.heap.objs.size
 noex:∀ b o,X.base.get? b=some o->b∉X.ex
 exfs:∀ b∈X.ex,b∉X.fs
 funs:X.s₀.heap.FunFrames X.base X.outer
 frf:∀ b∈X.fs,X.H₀ b=none
structure Inv(X:Cx)(pins:List (Addr×Obj))(σ:List (Option V))(H:Hp)(s:Shared):Prop where
 ok:X.Ok
 os:s.os=X.s₀.os
 bare:AllBare s.gens
 base:Un X.fs X.ex X.H₀ H X.s₀.heap s.heap
 loc:∃ m,s.heap.Ns X.env.locals m/\∀(i:Nat) (x:Str) (v:V),X.N[i]?=some x->σ[i]?=some (some v)->Vis X.env.scope x->∃ u,RelV v u/\Look X.env s.heap m x u
 cell:∀ x c,X.env.cells.lookup x=some c->∃ v,s.heap.IsCell c v
 free:H X.env.locals=none
 freeC:∀ x c,X.env.cells.lookup x=some c->H c=none
 pin:∀ p∈X.pn++pins,s.heap.get? p.1=some p.2/\H p.1=none/\p.1≠X.env.locals/\p.1∉X.fs/\∀ v,p.2.data≠.cell v
 hok:HOk X.prog X.w H s.heap
 len:σ.length=X.N.length
section
variable{X:Cx}{pins:List (Addr×Obj)}{σ:List (Option V)}{H H':Hp}{s:Shared}{h':Heap}
theorem Cx.Ok.nofr(ok:X.Ok){o:Obj}(e:X.base.get? b=some o):b∉X.fs:=fun hb=>by
 have:=(ok.funs.mem hb).1;rw[e] at this;cases this
theorem Inv.bs(I:Inv X pins σ H s):∀ b o,X.base.get? b=some o->s.heap.get? b=some o/\H b=none:=fun b o e =>
 ⟨I.base.keep b o (I.ok.bs b o e).1 (I.ok.bs b o e).2 (I.ok.nofr e) (I.ok.noex b o e),I.base.free b o (I.ok.bs b o e).1 (I.ok.bs b o e).2 (I.ok.noex b o e)⟩
theorem Inv.bk(I:Inv X pins σ H s):∀ b o,X.base.get? b=some o->s.heap.get? b=some o:=fun b o e=>(I.bs b o e).1
theorem Inv.mod(I:Inv X pins σ H s):Mod X.K X.mg X.base:=I.ok.mod
theorem Inv.kIn(I:Inv X pins σ H s):X.K.In s.heap:=I.ok.mod.kin.keeps I.bk
theorem Inv.nolimit(I:Inv X pins σ H s):s.heap.NoLimit:=I.ok.mod.nolimit.keeps I.bk
theorem Inv.lt(I:Inv X pins σ H s):X.env.locals<s.heap.objs.size:=let ⟨_,hn,_⟩:=I.loc;hn.lt
theorem Inv.sz(I:Inv X pins σ H s):X.s₀.heap.objs.size<=s.heap.objs.size:=yi I.ok.above (yP I.lt)
theorem Inv.nofs(I:Inv X pins σ H s)(h:s.heap.objs.size<=a):a∉X.fs:=fun hb=>by
 obtain⟨_,o,b,_⟩:=I.ok.funs.mem hb;show absurd (yj (yF b) (yi I.sz h)) (Yd _)
theorem Inv.cne(I:Inv X pins σ H s):∀ x c,X.env.cells.lookup x=some c->c≠X.env.locals:=fun x c e z=>by
 obtain⟨v,o,f,d⟩:=I.cell x c e;obtain⟨m,⟨g,es,ep,b,a,_⟩,_⟩:=I.loc;rw[z,b] at f;cases f;rw[a] at d;cases d
theorem Inv.funs(I:Inv X pins σ H s):s.heap.FunFrames X.base X.outer:=by
 have all:∀(l:List Env),(∀ b∈frs l,b∈X.fs)->X.s₀.heap.FunFrames X.base l->s.heap.FunFrames X.base l:=by
  intro l
  induction l with
  | nil=>intro _ _;trivial
  | cons env r ih =>
   intro d hl;obtain⟨g,⟨L,o,c,h,i,f⟩,j⟩:=hl;have a:L∈X.fs:=d L (by unfold frs;rw[YO,c];show yy);obtain⟨m,e⟩:=I.base.slot L o i (I.ok.frf L a) a fun z=>I.ok.exfs L z a;show⟨g,⟨L,_,c,h,e,f⟩,ih (fun b hb=>d b (by unfold frs;rw[YO,c];show yu _ hb)) j⟩
 show all X.outer (fun _ hb=>hb) I.ok.funs
theorem Inv.stack(I:Inv X pins σ H s):s.heap.FunFrames X.base X.stack:=by
 rcases I.ok.stk with e | ⟨e,hf⟩
 .rw [e];show I.funs
 .rw [e];obtain⟨m,a,_⟩:=I.loc;show .cons (by rw[I.ok.kind];decide) hf a ?_ I.funs;show Heap.get?_none_of_le (yi I.ok.bsz I.ok.above)
theorem Inv.stkSub(I:Inv X pins σ H s):∀ b∈frs X.stack,b∈X.env.locals::X.fs:=fun b hb=>by
 rcases I.ok.stk with e | ⟨e,hf⟩
 .rw [e] at hb;show yu _ hb
 .rw [e] at hb;unfold frs at hb;rw[YO,hf] at hb;show hb
theorem Inv.stkFree(I:Inv X pins σ H s):∀ b∈frs X.stack,H b=none:=fun b hb=>by
 rcases yA.mp (I.stkSub b hb) with e | hb
 .rw [e];show I.free
 .obtain⟨_,o,a,_⟩:=I.ok.funs.mem hb;show I.base.free b o a (I.ok.frf b hb) fun z=>I.ok.exfs b z hb
theorem Inv.step(I:Inv X pins σ H s)
  (f:∀ b∈ch,(b∈X.ex\/X.s₀.heap.objs.size<=b)/\b≠X.env.locals/\(∀ x c,X.env.cells.lookup x=some c->c≠b)/\∀ p∈X.pn++pins,p.1≠b)
  (keep:∀ b o,b≠X.env.locals->b∉X.fs->b∉ch->s.heap.get? b=some o->H b=none->h'.get? b=some o)
  (t:∀ b o,b≠X.env.locals->b∈X.fs->b∉ch->s.heap.get? b=some o->H b=none->∃ M,h'.get? b=some { o with slots:=M }) (free:∀ b o,b∉ch->s.heap.get? b=some o->H b=none->H' b=none)
  (y:∀ b o,b∉ch->s.heap.get? b=some o->∃ F,h'.get? b=some F)
  (J:∀ b xs,H b=some (.tup xs)->H' b=some (.tup xs)) (C:∀ b o u,H b=some (.frz o u)->H' b=some (.frz o u)) (G:∀ b ps,H b=some (.tbl ps)->∃ D,H' b=some (.tbl (ps++D)))
  (ns:∀ m,s.heap.Ns X.env.locals m->h'.Ns X.env.locals m) (L:HOk X.prog X.w H' h') (S:AllBare g') :
  Inv X pins σ H' { s with heap:=h',gens:=g',drawn:=d',toks:=t' }:=by
 have E:∀ b o,X.s₀.heap.get? b=some o->b≠X.env.locals:=fun b o e=>yN (yj (yF e) I.ok.above)
 have j:∀ b o,X.s₀.heap.get? b=some o->b∉X.ex->b∉ch:=fun b o e a hb=>by
  rcases(f b hb).1 with z | z
  .show a z
  .show absurd (yj (yF e) z) (Yd _)
 have cellK:∀ x c,X.env.cells.lookup x=some c->∀ v,s.heap.IsCell c v->h'.IsCell c v:=fun x c e v ⟨o,A,K⟩=>by
  have g:c∉ch:=fun z=>(f c z).2.2.1 x c e rfl;by_cases hc:c∈X.fs
  .obtain⟨M,q⟩:=t c o (I.cne x c e) hc g A (I.freeC x c e);show⟨_,q,K⟩
  .show⟨o,keep c o (I.cne x c e) hc g A (I.freeC x c e),K⟩
 show⟨I.ok,I.os,S,⟨fun b o e n hb a=>?_,fun b o e n hb a=>?_,fun b o e n a=>?_,fun b o e a=>?_,fun b xs e=>J b xs (I.base.tups b xs e),fun b o xs e=>C b o xs (I.base.frzs b o xs e),fun b ps e=>?_⟩,?_,fun x c e=>?_,?_,fun x c e=>?_,fun p O=>?_,L,I.len⟩
 .show keep b o (E b o e) hb (j b o e a) (I.base.keep b o e n hb a) (I.base.free b o e n a)
 .obtain⟨M,h⟩:=I.base.slot b o e n hb a;obtain⟨N,B⟩:=t b _ (E b o e) hb (j b o e a) h (I.base.free b o e n a);show⟨N,B⟩
 .obtain⟨F,h⟩:=I.base.there b o e a;show free b F (j b o e a) h (I.base.free b o e n a)
 .obtain⟨F,h⟩:=I.base.there b o e a;show y b F (j b o e a) h
 .obtain⟨U,h⟩:=I.base.tbls b ps e;obtain⟨W,B⟩:=G b _ h;show⟨U++W,by rw[B,Array.append_assoc]⟩
 .obtain⟨m,T,hl⟩:=I.loc;show⟨m,ns m T,fun i x v h B R=>?_⟩;obtain⟨u,r,l⟩:=hl i x v h B R;show⟨u,r,?_⟩;rcases l with l | ⟨k,c,e,z⟩
  .show .inl l
  .show .inr ⟨k,c,e,cellK x c e _ z⟩
 .obtain⟨v,z⟩:=I.cell x c e;show⟨v,cellK x c e v z⟩
 .obtain⟨m,⟨o,_,_,A,_⟩,_⟩:=I.loc;show free _ o (fun z=>(f _ z).2.1 rfl) A I.free
 .obtain⟨v,o,A,K⟩:=I.cell x c e;show free c o (fun z=>(f c z).2.2.1 x c e rfl) A (I.freeC x c e)
 .obtain⟨e,n,ne,P,d⟩:=I.pin p O;have g:p.1∉ch:=fun z=>(f p.1 z).2.2.2 p O rfl;show⟨keep p.1 p.2 ne P g e n,free p.1 p.2 g e n,ne,P,d⟩
theorem Inv.un(I:Inv X pins σ H s)(u:Un X.fs [] H H' s.heap h')(d:HOk X.prog X.w H' h'):Inv X pins σ H' { s with heap:=h',toks:=t' }:=by
 obtain⟨m,⟨o,es,ep,f,r⟩,_⟩:=id I.loc;obtain⟨l,g⟩:=u.any f I.free (by simp)
 show I.step (g':=s.gens) (d':=s.drawn) (ch:=[]) (fun _ z=>nomatch z) (fun b o _ hb _ e n=>u.keep b o e n hb (by simp)) (fun b o _ hb _ e n=>u.slot b o e n hb (by simp)) (fun b o _ e n=>u.free b o e n (by simp)) (fun b o _ e=>u.there b o e (by simp)) u.tups u.frzs u.tbls (fun i h=>by
  obtain⟨j,es',c,a,r'⟩:=h;rw[f] at a;cases a;show⟨_,es',c,g,r'⟩) d I.bare
theorem Inv.call(I:Inv X pins σ H s)(u:Un (frs X.stack) ch H H' s.heap h')(h:HOk X.prog X.w H' h')(j:AllBare g')
  (a:∀ b∈ch,(b∈X.ex\/X.s₀.heap.objs.size<=b)/\b≠X.env.locals/\(∀ x c,X.env.cells.lookup x=some c->c≠b)/\∀ p∈X.pn++pins,p.1≠b) :
  Inv X pins σ H' { s with heap:=h',gens:=g',drawn:=d',toks:=t' }:=by
 obtain⟨m,⟨o,es,ep,i,r⟩,_⟩:=id I.loc;obtain⟨v,g⟩:=u.any i I.free fun z=>(a _ z).2.1 rfl
 show I.step (ch:=ch) a (fun b o g hb hc e n=>u.keep b o e n (fun z=>(yA.mp (I.stkSub b z)).elim g hb) hc) (fun b o _ _ hc e n=>u.any e n hc) (fun b o hc e n=>u.free b o e n hc) (fun b o hc e=>u.there b o e hc) u.tups u.frzs u.tbls (fun q l=>by
  obtain⟨t,es',f,d,r'⟩:=l;rw[i] at d;cases d;show⟨_,es',f,g,r'⟩) h j
theorem Inv.turned(I:Inv X pins σ H s)(k:∀ b o,b≠it->s.heap.get? b=some o->h'.get? b=some o)(i:H it=none)(d:it≠X.env.locals)
  (h1:it∈X.ex\/X.s₀.heap.objs.size<=it) (f:∀ x c,X.env.cells.lookup x=some c->c≠it) (g:∀ p∈X.pn++pins,p.1≠it):Inv X pins σ H { s with heap:=h',toks:=t' }:=by
 have a:∀ b u,H b=some u->b≠it:=fun b u e z=>by rw[z,i] at e;cases e
 show I.step (g':=s.gens) (d':=s.drawn) (ch:=[it]) (fun b hb=>?_) (fun b o _ _ hc e _=>k b o (fun z=>hc (by simp[z])) e) (fun b o _ _ hc e _=>⟨o.slots,k b o (fun z=>hc (by simp[z])) e⟩) (fun _ _ _ _ n=>n)
  (fun b o hc e=>⟨o,k b o (fun z=>hc (by simp[z])) e⟩) (fun _ _ e=>e) (fun _ _ _ e=>e) (fun b ps e=>⟨#[],by rw[e];simp⟩) (fun m h=>?_) (fun b u e=>?_) I.bare
 .have e:b=it:=by simpa using hb
  subst e;show⟨h1,d,f,g⟩
 .obtain⟨o,es,ep,j,r⟩:=h;show⟨o,es,ep,k _ o (Yq d) j,r⟩
 .show(I.hok b u e).stay (fun c v hc q=>k c v ?_ q) (fun _ q=>q) fun _ _ q=>q;rcases hc with z | z
  .rw [z];show a b u e
  .show a c _ z
theorem Inv.tok(I:Inv X pins σ H s)(t:Nat):Inv X pins σ H { s with toks:=t }:=I.un (h':=s.heap) (t':=t) Un.refl I.hok
theorem Inv.kept(I:Inv X pins σ H s)(k:∀ b u,s.heap.get? b=some u->h'.get? b=some u):Inv X pins σ H { s with heap:=h',toks:=t' }:=I.un (Un.kept k) (I.hok.kept k)
theorem Inv.laid(I:Inv X pins σ H s)(k:∀ b u,s.heap.get? b=some u->h'.get? b=some u)(c:s.heap.objs.size<=a)(new:ObjOk X.prog X.w (upd H a o) h' a o) :
  Inv X pins σ (upd H a o) { s with heap:=h',toks:=t' }:=I.un (Un.laid k c (I.hok.fresh c)) (I.hok.laid k c new)
theorem Inv.write{x e:Addr}(I:Inv X pins σ H s)(d:Mut (H x))(c:e=x\/H e=some (.own x))(k:∀ b u,b≠e->s.heap.get? b=some u->h'.get? b=some u)(a:∃ u,h'.get? e=some u)
  (new:ObjOk X.prog X.w (upd H x o) h' x o):Inv X pins σ (upd H x o) { s with heap:=h',toks:=t' }:=I.un (Un.write d c k a) (I.hok.write d c k a new)
theorem Inv.weak{a:List (Option V)}(I:Inv X pins σ H s)(hl:a.length=σ.length)(w:∀(i:Nat) v,a[i]?=some (some v)->σ[i]?=some (some v)):Inv X pins a H s:=
 ⟨I.ok,I.os,I.bare,I.base,let ⟨m,hn,hl'⟩:=I.loc;⟨m,hn,fun i x v b c d=>hl' i x v b (w i v c) d⟩,I.cell,I.free,I.freeC,I.pin,I.hok,hl.trans I.len⟩
theorem Inv.pins_of{pins':List (Addr×Obj)}(I:Inv X pins σ H s)(h:∀ p∈pins',s.heap.get? p.1=some p.2/\H p.1=none/\p.1≠X.env.locals/\p.1∉X.fs/\∀ v,p.2.data≠.cell v):Inv X pins' σ H s:=
 ⟨I.ok,I.os,I.bare,I.base,I.loc,I.cell,I.free,I.freeC,fun p a=>(yH.mp a).elim (fun z=>I.pin p (Yb _ z)) (h p),I.hok,I.len⟩
theorem qbn(e:N.Nodup)(a:N[i]?=some x)(b:N[j]?=some x):i=j:=by
 obtain⟨h1,c⟩:=yc.mp a;obtain⟨f,d⟩:=yc.mp b;show(List.getElem_inj e).mp (c.trans d.symm)
theorem qbK{Q:Unit->Shared->Prop}(I:Inv X pins σ H s)(hN:X.N.Nodup)(O:X.N[i]?=some x)(t:Loc X.env.scope x)(r:RelV v u)
  (h:∀ s',Inv X pins (σ.set i (some v)) H s'->(∃ a,Heap.SameBut a s.heap s'.heap/\(a=X.env.locals\/X.env.cells.lookup x=some a))->Q () s') (hf:X.fn x=true\/X.env.scope.names.lookup x=some .local:=by first | show .inl rfl | show .inr rfl | assumption):wpAny M A (storeName X.env x u) Q E s:=by
 obtain⟨m,W,hl⟩:=id I.loc;have L:(X.env.scope.kind==.class||(X.env.scope.kind==.module&&X.env.locals != X.env.globals))=false:=by rw[I.ok.kind];rfl
 have D:i<σ.length:=by rw[I.len];show(yc.mp O).1
 have cne:=I.cne
 have l:∀{a:Addr} {h':Heap},(∃ o,s.heap.get? a=some o/\H a=none)->Heap.SameBut a s.heap h'->HOk X.prog X.w H h':=fun{a h'} ha f b ob e=>by
  obtain⟨_,_,B⟩:=ha;show(I.hok b ob e).stay (fun c T hc q=>(f.2 c ?_).trans q) (fun _ q=>q) fun _ _ q=>q;rintro rfl;rcases hc with rfl | hc
  .rw [B] at e;cases e
  .rw [B] at hc;cases hc
 rcases t with hk | hk
 .show wpAny_storeName_local hk W (fun h' Y f=>?_) L;obtain⟨oL,_,_,Z,_⟩:=id W;show h _ ⟨I.ok,I.os,I.bare,⟨fun b o e n hb t=>?_,fun b o e n hb t=>?_,I.base.free,fun b o e t=>?_,I.base.tups,I.base.frzs,I.base.tbls⟩,⟨_,Y,fun j y v' g C U=>?_⟩,fun y c e=>?_,I.free,I.freeC,fun p hp=>?_,l ⟨oL,Z,I.free⟩ f,by simpa using I.len⟩ ⟨_,f,.inl rfl⟩
  .show(f.2 b (yN (yj (yF e) I.ok.above))).trans (I.base.keep b o e n hb t)
  .obtain⟨sl,g⟩:=I.base.slot b o e n hb t;show⟨sl,(f.2 b (yN (yj (yF e) I.ok.above))).trans g⟩
  .obtain⟨o',g⟩:=I.base.there b o e t;show⟨o',(f.2 b (yN (yj (yF e) I.ok.above))).trans g⟩
  .by_cases G:j=i
   .subst G;rw[O] at g;cases g;rw[xM D] at C;cases C;show⟨u,r,.inl ⟨hk,by simp⟩⟩
   .rw [xZ (Yq G)] at C;obtain⟨u',r',q⟩:=hl j y v' g C U;show⟨u',r',?_⟩;rcases q with⟨k,e⟩ | ⟨k,c,e,z⟩
    .show .inl ⟨k,?_⟩;have:y≠x:=fun e=>G (qbn hN g (e ▸ O));simp[this,e]
    .show .inr ⟨k,c,e,z.sameBut f (cne y c e)⟩
  .obtain⟨T,z⟩:=I.cell y c e;show⟨T,z.sameBut f (cne y c e)⟩
  .obtain⟨e,n,ne,nf,d⟩:=I.pin p hp;show⟨(f.2 p.1 ne).trans e,n,ne,nf,d⟩
 .have F:X.fn x=true:=by
   rcases hf with z | z
   .show z
   .rw [z] at hk;cases hk
  obtain⟨c,hc⟩:=I.ok.has x (.inl hk);obtain⟨T,z⟩:=I.cell x c hc;show wpAny_storeName_cell I.ok.kind hk hc z (fun h' J f=>?_);obtain⟨oc,P,R⟩:=id z;show h { s with heap:=h' } ⟨I.ok,I.os,I.bare,⟨fun b o e n hb t=>?_,fun b o e n hb t=>?_,I.base.free,fun b o e t=>?_,I.base.tups,I.base.frzs,I.base.tbls⟩,⟨m,W.sameBut f (Yq (cne x c hc)),fun j y v' g C U=>?_⟩,fun y S e=>?_,I.free,I.freeC,fun p hp=>?_,l ⟨oc,P,I.freeC x c hc⟩ f,by simpa using I.len⟩ ⟨c,f,.inr hc⟩
  .show(f.2 b (yN (yj (yF e) (I.ok.cab x c F hc)))).trans (I.base.keep b o e n hb t)
  .obtain⟨sl,g⟩:=I.base.slot b o e n hb t;show⟨sl,(f.2 b (yN (yj (yF e) (I.ok.cab x c F hc)))).trans g⟩
  .obtain⟨o',g⟩:=I.base.there b o e t;show⟨o',(f.2 b (yN (yj (yF e) (I.ok.cab x c F hc)))).trans g⟩
  .by_cases G:j=i
   .subst G;rw[O] at g;cases g;rw[xM D] at C;cases C;show⟨u,r,.inr ⟨.inl hk,c,hc,J⟩⟩
   .rw [xZ (Yq G)] at C;obtain⟨u',r',q⟩:=hl j y v' g C U;show⟨u',r',?_⟩;rcases q with q | ⟨k,S,e,z'⟩
    .show .inl q
    .show .inr ⟨k,S,e,z'.sameBut f ?_⟩;rintro rfl;show G (qbn hN g (I.ok.inj _ _ _ e hc ▸ O))
  .by_cases K:S=c
   .subst K;show⟨_,J⟩
   .obtain⟨w2,z2⟩:=I.cell y S e;show⟨w2,z2.sameBut f K⟩
  .obtain⟨e,n,ne,nf,d⟩:=I.pin p hp;show⟨(f.2 p.1 ?_).trans e,n,ne,nf,d⟩;intro q;rw[q,P] at e;have q':oc=p.2:=ym e;show d T (by rw[<- q'];show R)
theorem qaF{Q:Unit->Shared->Prop}(I:Inv X pins σ H s)(b:X.N.Nodup)(d:X.N[i]?=some x)(e:Loc X.env.scope x)(r:RelV v u)
  (h:∀ s',Inv X pins (σ.set i (some v)) H s'->Q () s') (c:X.fn x=true\/X.env.scope.names.lookup x=some .local:=by first | show .inl rfl | show .inr rfl | assumption):wpAny M A (storeName X.env x u) Q E s:=
 qbK I b d e r (fun s' a _=>h s' a) c
theorem Inv.call'(I:Inv X pins σ H s)(g:s'.os=s.os)(u:Un (frs X.stack) ch H H' s.heap s'.heap)(d:HOk X.prog X.w H' s'.heap)(f:AllBare s'.gens)
  (a:∀ b∈ch,(b∈X.ex\/X.s₀.heap.objs.size<=b)/\b≠X.env.locals/\(∀ x c,X.env.cells.lookup x=some c->c≠b)/\∀ p∈X.pn++pins,p.1≠b):Inv X pins σ H' s':=by
 obtain⟨h',g',d',t',h⟩:=s';have e:h=s.os:=g;subst e;show I.call (g':=g') (t':=t') (d':=d') u d f a
end
abbrev XK:=Value->Option Addr->Hp->Prop
noncomputable abbrev St:=List (Option V)
abbrev VK:=V->Hp->Prop
abbrev TE:=St->Hp->VK->Prop
abbrev TT:=St->Hp->(Bool->Hp->Prop)->Prop
abbrev TA:=St->Hp->(List V->Hp->Prop)->Prop
structure Ends where
 nx:St->Hp->Prop
 rt:VK
 bk:St->Hp->Prop:=fun _ _=>False
 ct:St->Hp->Prop:=fun _ _=>False
abbrev TS:=Ends->St->Hp->Prop
def EP(X:Cx)(pins:List (Addr×Obj))(σ:St)(Q:VK)(u:Value)(s':Shared):Prop:=∃ v H',Inv X pins σ H' s'/\RelV v u/\Q v H'
def TP(X:Cx)(pins:List (Addr×Obj))(σ:St)(Q:Bool->Hp->Prop)(b:Bool)(s':Shared):Prop:=∃ H',Inv X pins σ H' s'/\Q b H'
def AP(X:Cx)(pins:List (Addr×Obj))(σ:St)(Q:List V->Hp->Prop)(us:List Value)(s':Shared):Prop:=∃ vs H',Inv X pins σ H' s'/\Vals vs us/\Q vs H'
def SP(X:Cx)(pins:List (Addr×Obj))(D:Ends)(f:Flow)(s':Shared):Prop:=
 match f with
 | .next=>∃ a H',Inv X pins a H' s'/\D.nx a H'
 | .brk=>∃ a H',Inv X pins a H' s'/\D.bk a H'
 | .cont=>∃ a H',Inv X pins a H' s'/\D.ct a H'
 | .ret u=>∃ v a H',Inv X pins a H' s'/\RelV v u/\D.rt v H'
def PE(X:Cx)(e:Expr)(t:TE):Prop:=
 ∀(pins:List (Addr×Obj)) (s:Shared) (σ:St) (H:Hp) (Q:VK),Inv X pins σ H s->t σ H Q->wpAny (model X.prog X.w) X.A (eval e X.env) (EP X pins σ Q) X.xe s
def PT(X:Cx)(e:Expr)(t:TT):Prop:=
 ∀(pins:List (Addr×Obj)) (s:Shared) (σ:St) (H:Hp) (Q:Bool->Hp->Prop),Inv X pins σ H s->t σ H Q->wpAny (model X.prog X.w) X.A (isTrue e X.env (eval e X.env)) (TP X pins σ Q) X.xe s
def PW(X:Cx)(e:Expr)(t:TT):Prop:=
 ∀(a:Sem Value) (pins:List (Addr×Obj)) (s:Shared) (σ:St) (H:Hp) (Q:Bool->Hp->Prop),Inv X pins σ H s->t σ H Q->wpAny (model X.prog X.w) X.A (isTrue e X.env a) (TP X pins σ Q) X.xe s
theorem PW.pt{t:TT}(h:PW X e t):PT X e t:=h _
def PA(X:Cx)(es:List Expr)(t:TA):Prop:=
 ∀(pos:Pos) (pins:List (Addr×Obj)) (s:Shared) (σ:St) (H:Hp) (Q:List V->Hp->Prop),Inv X pins σ H s->t σ H Q->wpAny (model X.prog X.w) X.A (spliced (backTo pos (starEach es X.env))) (AP X pins σ Q) X.xe s
def PS(X:Cx)(st:Stmt)(t:TS):Prop:=
 ∀(pins:List (Addr×Obj)) (s:Shared) (σ:St) (H:Hp) (D:Ends),Inv X pins σ H s->t D σ H->wpAny (model X.prog X.w) X.A (exec st X.env) (SP X pins D) X.xe s
def PSs(X:Cx)(st:List Stmt)(t:TS):Prop:=
 ∀(pins:List (Addr×Obj)) (s:Shared) (σ:St) (H:Hp) (D:Ends),Inv X pins σ H s->t D σ H->wpAny (model X.prog X.w) X.A (execs st X.env) (SP X pins D) X.xe s
theorem thn{t:Sem α}{Q b:α->Shared->Prop}(h:wpAny M A t Q E s)(c:∀ a s,Q a s->b a s):wpAny M A t b E s:=Ym h c fun _ _ x=>x
section
variable{X:Cx}
def qfa(i:Nat):TE:=fun σ H Q=>∃ v,σ[i]?=some (some v)/\Q v H
def tC(v:V):TE:=fun _ H Q=>Q v H
theorem pe_var{pos:Pos}(g:X.N[i]?=some x)(hv:Vis X.env.scope x)(f:(x==("__debug__":Str))=false:=by decide)(d:(x==("__classdict__":Str))=false:=by decide):PE X (.Name x pos) (qfa i):=by
 intro pins s σ H Q I h;obtain⟨v,e,h⟩:=h;obtain⟨m,n,hl⟩:=I.loc;obtain⟨u,r,l⟩:=hl i x v g e hv;have b:EP X pins σ Q u s:=⟨v,H,I,r,h⟩;rcases l with⟨hk,j⟩ | ⟨hk,c,hc,a⟩
 .show wpAny_Name (wpAny_loadName_local I.ok.kind hk n j b) f
 .rcases hk with hk | hk
  .show wpAny_Name (wpAny_loadName_cell I.ok.kind hk hc a b) f
  .show wpAny_Name (wpAny_loadName_free I.ok.kind hk hc a b d) f
theorem qe{i j pos}:PE X (.Constant (.int i) j pos) (tC (.int i)):=fun _ _ _ H _ I h=>wpAny_Constant_int ⟨.int i,H,I.tok _,⟨_,rfl⟩,h⟩
theorem jr{b j pos}:PE X (.Constant (.bool b) j pos) (tC (.bl b)):=fun _ _ _ H _ I h=>Constant_bool ⟨.bl b,H,I,rfl,h⟩
theorem zA{j pos}:PE X (.Constant .none j pos) (tC .non):=fun _ _ _ H _ I h=>Constant_none ⟨.non,H,I,rfl,h⟩
theorem qZ{x j pos}:PE X (.Constant (.str x) j pos) (tC (.str x)):=fun _ _ _ H _ I h=>Calls.Constant_str ⟨.str x,H,I.tok _,⟨_,rfl⟩,h⟩
def Gl(X:Cx)(x:Str):Prop:=X.env.kindOf x=some .globalImplicit
theorem zB{pos:Pos}{Q:Value->Shared->Prop}(I:Inv X pins σ H s)(b:Gl X x)(c:X.mg x=some u)(h:Q u s)
  (a:(x==("__debug__":Str))=false:=by decide):wpAny (model X.prog X.w) X.A (eval (.Name x pos) X.env) Q E s:=
 Calls.Name_function_global I.ok.kind b (Calls.loadGlobal_global (by rw[I.ok.glob];show I.mod.glob.keeps I.bk) c h) a
theorem qa8{pos:Pos}{Q:Value->Shared->Prop}(I:Inv X pins σ H s)(c:Gl X x)(d:X.mg x=none)(hv:bootBuiltins x=some u)(h:Q u s)
  (e:x≠"__name__":=by decide) (b:(x==("__debug__":Str))=false:=by decide):wpAny (model X.prog X.w) X.A (eval (.Name x pos) X.env) Q E s:=by
 obtain⟨f,h1,a⟩:=I.mod.blt;show Calls.Name_function_global I.ok.kind c (Calls.loadGlobal_builtin (by rw[I.ok.glob];show I.mod.glob.keeps I.bk) d (by rw[I.ok.blt];show h1.keeps I.bk) ((a x e).trans hv) h) b
theorem qdx{pos:Pos}(b:Gl X x)(c:X.mg x=some u)(r:RelV v u)(a:(x==("__debug__":Str))=false:=by decide):PE X (.Name x pos) (tC v):=
 fun _ _ _ H _ I h=>zB I b c ⟨v,H,I,r,h⟩ a
theorem jt{pos:Pos}(b:Gl X x)(c:X.mg x=none)(hv:bootBuiltins x=some u)(r:RelV v u)(d:x≠"__name__":=by decide)(a:(x==("__debug__":Str))=false:=by decide):PE X (.Name x pos) (tC v):=
 fun _ _ _ H _ I h=>qa8 I b c hv ⟨v,H,I,r,h⟩ d a
variable{a b:Expr}{ta tb:TE}{pos:Pos}
def tB(t:TE):TT:=fun σ H Q=>t σ H fun x a=>∃ c,x=.bl c/\Q c a
theorem qN(h:PE X e t)(f:∀ a,isTrue e X.env a=(do let v <- a;standAt e.pos;holding [v] (truthy v)):=by intro _;rfl):PT X e (tB t):=by
 intro pins s σ H Q I hw;show isTrue_plain (thn (h pins s σ H _ I hw) fun v j ⟨x,b,c,i,g⟩=>?_) (f _);obtain⟨d,rfl,q⟩:=g;cases i;show Y9 ⟨b,c,q⟩
variable{tA tB':TT}{rest:List Expr}
def qfR(t u:TT):TT:=fun σ H Q=>t σ H fun c a=>if c=true then u σ a Q else Q false a
def tOr(t u:TT):TT:=fun σ H Q=>t σ H fun c a=>if c=true then Q true a else u σ a Q
def qfS(t:TT):TT:=fun σ H Q=>t σ H fun c a=>Q (!c) a
theorem zj(b:PT X a tA):PW X (.BoolOp .And [a] pos) tA:=by
 intro f pins s σ H Q I h;show isTrue_and (thn (b pins s σ H Q I h) fun c d e=>?_)
 cases c with
 | true=>show isTrue_and_nil e
 | false=>show e
theorem jY(b:PT X a tA):PW X (.BoolOp .Or [a] pos) tA:=by
 intro f pins s σ H Q I h;show isTrue_or (thn (b pins s σ H Q I h) fun c d e=>?_)
 cases c with
 | false=>show isTrue_or_nil e
 | true=>show e
theorem zC(g:PT X a tA)(hb:PW X (.BoolOp .And (b::rest) pos) tB'):PW X (.BoolOp .And (a::b::rest) pos) (qfR tA tB'):=by
 intro j pins s σ H Q I h;show isTrue_and (thn (g pins s σ H _ I h) fun c i ⟨d,e,f⟩=>?_)
 cases c with
 | true=>show hb j pins i σ d Q e f
 | false=>show⟨d,e,f⟩
theorem zl(g:PT X a tA)(hb:PW X (.BoolOp .Or (b::rest) pos) tB'):PW X (.BoolOp .Or (a::b::rest) pos) (tOr tA tB'):=by
 intro j pins s σ H Q I h;show isTrue_or (thn (g pins s σ H _ I h) fun c i ⟨d,e,f⟩=>?_)
 cases c with
 | true=>show⟨d,e,f⟩
 | false=>show hb j pins i σ d Q e f
theorem qO(d:PT X a tA):PT X (.UnaryOp .Not a pos) (qfS tA):=by
 intro pins s σ H Q I h;show isTrue_not (d pins s σ H (fun c b=>Q (!c) b) I h)
def qfb(ta tb:TE):TE:=fun σ H Q=>ta σ H fun x a=>∃ c,x=.bl c/\if c=true then tb σ a Q else Q (.bl false) a
def tOrV(ta tb:TE):TE:=fun σ H Q=>ta σ H fun x a=>∃ c,x=.bl c/\if c=true then Q (.bl true) a else tb σ a Q
def qfc(ta:TE):TE:=fun σ H Q=>ta σ H fun x a=>∃ c,x=.bl c/\Q (.bl (!c)) a
theorem zR{op}(h:PE X a t):PE X (.BoolOp op [a] pos) t:=fun pins s σ H Q I hw=>BoolOp_one (h pins s σ H Q I hw)
theorem zD(g:PE X a ta)(hb:PE X (.BoolOp .And (b::rest) pos) tb):PE X (.BoolOp .And (a::b::rest) pos) (qfb ta tb):=by
 intro pins s σ H Q I h;show BoolOp_and (thn (g pins s σ H _ I h) fun v j ⟨x,e,f,i,d⟩=>?_);obtain⟨c,rfl,d⟩:=d;cases i;show Y9 ?_
 cases c with
 | true=>show hb pins j σ e Q f d
 | false=>show⟨.bl false,e,f,rfl,d⟩
theorem pe_not(f:PE X a ta):PE X (.UnaryOp .Not a pos) (qfc ta):=by
 intro pins s σ H Q I h;show UnaryOp_ (thn (f pins s σ H _ I h) fun v i ⟨x,d,e,g,b⟩=>?_);obtain⟨c,rfl,b⟩:=b;cases g;show not_of (Y9 ⟨.bl (!c),d,e,rfl,b⟩)
def tIf(t:TT)(ta tb:TE):TE:=fun σ H Q=>t σ H fun c a=>if c=true then ta σ a Q else tb σ a Q
end
def SqL(K:yg)(H:Hp)(a:Addr)(xs:List V):Prop:=
 Rd H a (.lst xs) \/
  ∃(o:Obj) (b:Array Value) (n:Nat),K.lookup a=some o/\o.cls=.type "list"/\o.dict=none/\o.data=.seq b n/\b.size<=sizeLine/\Vals xs b.toList
def SqT(K:yg)(H:Hp)(a:Addr)(xs:List V):Prop:=
 Rd H a (.tup xs) \/
  ∃(o:Obj) (b:Array Value) (n:Nat),K.lookup a=some o/\o.cls=.type "tuple"/\o.data=.seq b n/\b.size<=sizeLine/\Vals xs b.toList
noncomputable def absV:Value->Option V
 | .none=>some .non
 | .bool b=>some (.bl b)
 | .int i _=>some (.int i)
 | .str x _=>some (.str x)
 | .bytes b _=>some (.byt b)
 | .float b _=>some (.flt b)
 | .ref a=>some (.ref a)
 | .type n=>some (.ty n)
 | _=>none
theorem RelV.abs{x:V}(r:RelV x u):absV u=some x:=by
 cases x with
 | non=>cases r;rfl
 | bl _=>cases r;rfl
 | int _=>obtain⟨t,rfl⟩:=r;rfl
 | str _=>obtain⟨t,rfl⟩:=r;rfl
 | byt _=>obtain⟨t,rfl⟩:=r;rfl
 | flt _=>obtain⟨t,rfl⟩:=r;rfl
 | ref _=>cases r;rfl
 | ty _=>cases r;rfl
theorem RelV.inj{x:V}(r:RelV x u)(q:RelV y u):x=y:=ym (r.abs.symm.trans q.abs)
theorem Vals.inj:∀{xs a:List V} {us:List Value},Vals xs us->Vals a us->xs=a
 | _,_,_,.nil,.nil=>rfl
 | _,_,_,.cons r t,.cons r' t'=>by rw[r.inj r',Vals.inj t t']
section
variable{X:Cx}{pins:List (Addr×Obj)}{σ:St}{H:Hp}{s:Shared}{a:Addr}{xs ys:List V}
theorem SqL.of{K:yg}(h:H a=some (.lst xs)):SqL K H a xs:=.inl (.inl h)
theorem SqT.of{K:yg}(h:H a=some (.tup xs)):SqT K H a xs:=.inl (.inl h)
theorem Inv.list(I:Inv X pins σ H s)(h:SqL X.K H a xs):∃ b:List Value,Vals xs b/\PlainL s.heap a b.toArray/\xs.length<=sizeLine:=by
 rcases h with h | ⟨o,b,n,hk,hc,hd,hs,hz,r⟩
 .obtain⟨z,b,n,r,e⟩:=h.ok I.hok;show⟨b,r,⟨_,n,e,rfl,rfl,rfl⟩,z⟩
 .show⟨b.toList,r,⟨o,n,I.kIn a o hk,hc,hd,by simpa using hs⟩,?_⟩;have e:=r.length;simp only[Yx] at e;lk
theorem Inv.tuple(I:Inv X pins σ H s)(h:SqT X.K H a xs):∃ b:List Value,Vals xs b/\IsTup s.heap a b.toArray/\xs.length<=sizeLine:=by
 rcases h with h | ⟨o,b,n,hk,hc,hs,hz,r⟩
 .obtain⟨z,b,r,p⟩:=h.ok I.hok;show⟨b,r,p,z⟩
 .show⟨b.toList,r,⟨o,I.kIn a o hk,hc,n,by simpa using hs⟩,?_⟩;have e:=r.length;simp only[Yx] at e;lk
theorem Inv.list_inj(I:Inv X pins σ H s)(h:SqL X.K H a xs)(h':SqL X.K H a ys):xs=ys:=by
 obtain⟨b,r,⟨o,n,e,_,_,d⟩,_⟩:=I.list h;obtain⟨its',r',⟨g,f,c,_,_,d'⟩,_⟩:=I.list h';rw[e] at c;cases c;rw[d] at d'
 injection d' with d1 _
 have:b=its':=by simpa using congrArg Array.toList d1
 subst this;show r.inj r'
theorem Inv.tuple_inj(I:Inv X pins σ H s)(h:SqT X.K H a xs)(h':SqT X.K H a ys):xs=ys:=by
 obtain⟨b,r,⟨o,e,_,n,d⟩,_⟩:=I.tuple h;obtain⟨its',r',⟨g,c,_,f,d'⟩,_⟩:=I.tuple h';rw[e] at c;cases c;rw[d] at d'
 injection d' with d1 _
 have:b=its':=by simpa using congrArg Array.toList d1
 subst this;show r.inj r'
end
noncomputable abbrev Cx.wish(X:Cx)(E:Value->Shared->Prop):Cx:={ X with xe:=E }
noncomputable abbrev Cx.nox(X:Cx):Cx:=X.wish fun _ _=>False
theorem Cx.Ok.wish(ok:X.Ok)(E:Value->Shared->Prop):(X.wish E).Ok:=
 ⟨ok.mod,ok.kind,ok.glob,ok.blt,ok.above,ok.inj,ok.has,ok.cab,ok.hd,ok.frames,ok.stk,ok.exf,ok.bs,ok.bsz,ok.noex,ok.exfs,ok.funs,ok.frf⟩
theorem Cx.Ok.unwish(ok:(X.wish E).Ok):X.Ok:=
 ⟨ok.mod,ok.kind,ok.glob,ok.blt,ok.above,ok.inj,ok.has,ok.cab,ok.hd,ok.frames,ok.stk,ok.exf,ok.bs,ok.bsz,ok.noex,ok.exfs,ok.funs,ok.frf⟩
section
variable{X:Cx}{pins:List (Addr×Obj)}{σ:St}{H:Hp}{s:Shared}{E:Value->Shared->Prop}
theorem Inv.wish(I:Inv X pins σ H s)(E:Value->Shared->Prop):Inv (X.wish E) pins σ H s:=⟨I.ok.wish E,I.os,I.bare,I.base,I.loc,I.cell,I.free,I.freeC,I.pin,I.hok,I.len⟩
theorem Inv.unwish(I:Inv (X.wish E) pins σ H s):Inv X pins σ H s:=⟨I.ok.unwish,I.os,I.bare,I.base,I.loc,I.cell,I.free,I.freeC,I.pin,I.hok,I.len⟩
theorem SP.unwish{f:Flow}(h:SP (X.wish E) pins D f s'):SP X pins D f s':=by
 cases f with
 | next=>obtain⟨a,H',I,q⟩:=h;show⟨a,H',I.unwish,q⟩
 | brk=>obtain⟨a,H',I,q⟩:=h;show⟨a,H',I.unwish,q⟩
 | cont=>obtain⟨a,H',I,q⟩:=h;show⟨a,H',I.unwish,q⟩
 | ret u=>obtain⟨v,a,H',I,r,q⟩:=h;show⟨v,a,H',I.unwish,r,q⟩
theorem PSs.nox{st:List Stmt}{t:TS}(h:PSs X.nox st t):PSs X st t:=fun pins s σ H D I hw =>
 Ym (h pins s σ H D (I.wish _) hw) (fun _ _ q=>q.unwish) fun _ _ z=>False.elim z
end
section
variable{X:Cx}{st:Stmt}{rest:List Stmt}{t u:TS}{e:Expr}{te:TE}{pos:Pos}
def qfd:TS:=fun D σ H=>D.nx σ H
def qfT(t u:TS):TS:=fun D σ H=>t { D with nx:=u D } σ H
theorem qv:PSs X [] qfd:=fun _ _ σ H _ I h=>XT ⟨σ,H,I,h⟩
theorem qb(h1:PS X st t)(c:PSs X rest u):PSs X (st::rest) (qfT t u):=by
 intro pins s σ H D I h;show wpAny_execs_cons (thn (h1 pins s σ H { D with nx:=u D } I h) fun f d q=>?_)
 cases f with
 | next =>
  obtain⟨a,H',b,q⟩:=q;show c pins d a H' D b q
 | ret v=>show q
 | brk=>show q
 | cont=>show q
theorem qf(h1:PS X st t):PSs X [st] t:=by
 intro pins s σ H D I h;show wpAny_execs_cons (thn (h1 pins s σ H D I h) fun f a q=>?_)
 cases f with
 | next=>show XT q
 | ret v=>show q
 | brk=>show q
 | cont=>show q
theorem Inv.quiet(I:Inv X pins σ H s):interactive X.env=false:=by simp[interactive,I.ok.kind]
def qfe(te:TE):TS:=fun D σ H=>te σ H fun _ a=>D.nx σ a
theorem q9(c:PE X e te)(d:swapsWith e none pos.line X.env=pure false:=by rfl):PS X (.Expr e pos) (qfe te):=by
 intro pins s σ H D I h;show wpAny_Expr_any (thn (c pins s σ H _ I h) fun v i ⟨x,a,b,g,f⟩=>⟨σ,a,b,f⟩) I.quiet d
def qfU(te:TE):TS:=fun D σ H=>te σ H D.rt
theorem qt(c:PE X e te):PS X (.Return (some e) pos) (qfU te):=by
 intro pins s σ H D I h;show wpAny_Return_some (thn (c pins s σ H _ I h) fun v g ⟨x,a,b,f,d⟩=>⟨x,σ,a,b,f,d⟩)
def tRetN:TS:=fun D _ H=>D.rt .non H
def qfV(c:TT)(t u:TS):TS:=fun D σ H=>c σ H fun b a=>if b=true then t D σ a else u D σ a
theorem qG{a b:List Stmt}(hc:PT X c tc)(j:PSs X a t)(hb:PSs X b u):PS X (.If c a b pos) (qfV tc t u):=by
 intro pins s σ H D I h;show wpAny_If (thn (hc pins s σ H _ I h) fun d i ⟨e,f,g⟩=>?_)
 cases d with
 | true=>show j pins i σ e D f g
 | false=>show hb pins i σ e D f g
def tNever:TS:=fun _ _ _=>False
theorem jG:PS X st tNever:=fun _ _ _ _ _ _ h=>h.elim
end
abbrev TG:=V->St->Hp->(St->Hp->Prop)->Prop
abbrev TGs:=List V->St->Hp->(St->Hp->Prop)->Prop
def PG(X:Cx)(a:Expr)(t:TG):Prop:=
 ∀(pins:List (Addr×Obj)) (s:Shared) (σ:St) (H:Hp) (v:V) (u:Value) (Q:St->Hp->Prop),Inv X pins σ H s->RelV v u->t v σ H Q ->
  wpAny (model X.prog X.w) X.A (assign a X.env u) (fun _ s'=>∃ b H',Inv X pins b H' s'/\Q b H') X.xe s
def PGs(X:Cx)(b:List Expr)(t:TGs):Prop:=
 ∀(pins:List (Addr×Obj)) (s:Shared) (σ:St) (H:Hp) (vs:List V) (us:List Value) (Q:St->Hp->Prop),Inv X pins σ H s->Vals vs us->t vs σ H Q ->
  wpAny (model X.prog X.w) X.A (assignInOrder ((assignEach b X.env).map (·.2)) us) (fun _ s'=>∃ a H',Inv X pins a H' s'/\Q a H') X.xe s
abbrev qff:=V->V->V->Hp->(Hp->Prop)->Prop
def qfC(X:Cx)(t:qff):Prop:=
 ∀(pins:List (Addr×Obj)) (s:Shared) (σ:St) (H:Hp) (o i v:V) (b a u:Value) (Q:Hp->Prop),Inv X pins σ H s->RelV o b->RelV i a->RelV v u->t o i v H Q ->
  wpAny (model X.prog X.w) X.A (setItem b a u) (fun _ s'=>∃ H',Inv X pins σ H' s'/\Q H') X.xe s
section
variable{X:Cx}{pos:Pos}
def qbL(i:Nat):TG:=fun v σ H Q=>Q (σ.set i (some v)) H
theorem qu(b:X.N.Nodup)(d:X.N[i]?=some x)(e:Loc X.env.scope x)(c:X.fn x=true\/X.env.scope.names.lookup x=some .local:=by first | show .inl rfl | show .inr rfl | assumption):PG X (.Name x pos) (qbL i):=by
 intro pins s σ H v u Q I r h;show wpAny_assign_Name (qaF I b d e r (fun s' a=>⟨_,H,a,h⟩) c)
def gNil:TGs:=fun vs σ H Q=>vs=[]/\Q σ H
def gCons(t:TG)(u:TGs):TGs:=fun vs σ H Q=>∃ v r,vs=v::r/\t v σ H fun a H'=>u r a H' Q
theorem qaw:PGs X [] gNil:=by
 intro pins s σ H vs us Q I r h;obtain⟨e,h⟩:=h;subst e;cases r;show assignInOrder_nil ⟨σ,H,I,h⟩
theorem qQ{t:TG}{u:TGs}(h1:PG X e t)(f:PGs X es u)
  (g:(assignEach (e::es) X.env).map (·.2)=assign e X.env::(assignEach es X.env).map (·.2):=by rfl):PGs X (e::es) (gCons t u):=by
 intro pins s σ H vs us Q I r h;obtain⟨v,l,d,h⟩:=h;subst d
 cases r with
 | cons r rr =>
  rw[g];show assignInOrder_cons (thn (h1 pins s σ H _ _ _ I r h) fun _ j ⟨a,b,c,i⟩=>?_);show f pins j a b _ _ Q c rr i
def qfD(K:yg)(n:Nat)(t:TGs):TG:=fun v σ H Q=>∃ a xs,v=.ref a/\SqT K H a xs/\xs.length=n/\t xs σ H Q
theorem qa9{k:Nat}{t:TGs}(hc:X.calm=true)(h:PGs X es t)
  (i:(assignEach es X.env).length=n:=by rfl) (c:(assignEach es X.env).findIdx? (·.1)=none:=by rfl):PG X (.Tuple es k pos) (qfD X.K n t):=by
 intro pins s σ H v u Q I r hw;obtain⟨a,xs,g,j,hl,hw⟩:=hw;subst g;cases r;obtain⟨p,d,l,q⟩:=I.tuple j;show assign_Tuple_tuple (I.ok.hd hc) l (by simp[i,<- hl,d.length]) c fun h' m=>?_;have f:Inv X pins σ H { s with heap:=h' }:=I.kept (t':=s.toks) fun b o e=>m b o (yN (yF e)) e;show h pins _ σ H xs _ Q f (by simpa using d) hw
def qfW(e d:TE)(t:qff):TG:=fun v σ H Q=>e σ H fun o a=>d σ a fun i b=>t o i v b fun c=>Q σ c
theorem jp{o i:Expr}{d c:TE}{t:qff}(q:PE X o d)(p:PE X i c)(w:qfC X t)
  (n:∀ v,assign (.Subscript o i pos) X.env v=(do
   let a <- holding [v] (eval o X.env);let b <- holding [v,a] (eval i X.env)
   standAt pos
   holding [v,a,b] (setItem a b v)
   release [v,a,b] []):=by intro _;rfl):PG X (.Subscript o i pos) (qfW d c t):=by
 intro pins s σ H v u Q I r h;rw[n];show yr (Yl (thn (q pins s σ H _ I h) fun a E ⟨x,e,j,C,z⟩=>?_));show yr (Yl (thn (p pins E σ e _ j z) fun b F ⟨y,f,l,D,A⟩=>?_));show yr (xT (yr (Yl (thn (w pins F σ f x y v a b u _ l C D r A) fun _ G ⟨g,m,B⟩=>?_))));show wpAny_release ⟨σ,g,m,B⟩
def qe6(te:TE)(g:TG):TS:=fun D σ H=>te σ H fun x a=>g x σ a D.nx
theorem qT(c:PE X e te)(d:PG X tg g)(f:swapsWithSole [tg] e pos.line X.env=pure false:=by rfl)(hw:swappedStores [tg] e X.env=pure none:=by rfl)
  (h1:(assignEach [tg] X.env).map (·.2)=[assign tg X.env]:=by rfl):PS X (.Assign [tg] e pos) (qe6 te g):=by
 intro pins s σ H D I h;show wpAny_Assign_stores (thn (c pins s σ H _ I h) fun v l ⟨x,a,b,j,i⟩=>?_) f hw;rw[h1];show thn (d pins l σ a x v _ b j i) fun _ m q=>q
theorem qp{a:Pos}(f:X.N.Nodup)(l:X.N[i]?=some x)(n:Loc X.env.scope x)(g:PE X e te)(m:swapsWith e (some (.Name x a)) pos.line X.env=pure false:=by rfl)(j:X.fn x=true\/X.env.scope.names.lookup x=some .local:=by first | show .inl rfl | show .inr rfl | assumption) :
  PS X (.Assign [.Name x a] e pos) (qe6 te (qbL i)):=by
 intro pins s σ H D I h;show wpAny_Assign_Name (thn (g pins s σ H _ I h) fun v q ⟨y,b,c,p,o⟩=>?_) m;show qaF c f l n p (fun r d=>⟨_,b,d,o⟩) j
end
section
variable{X:Cx}{pos:Pos}
def tWhile(c:TT)(tb:TS):TS:=fun D σ H=>∃ W:Nat->St->Hp->Prop,(∃ m,W m σ H)/\∀ m σ H,W m σ H ->
 c σ H fun b d=>if b=true then ∃ N:St->Hp->Prop,(∀ a H',N a H'->∃ e,e<m/\W e a H')/\tb { D with nx:=N,ct:=N,bk:=D.nx } σ d else D.nx σ d
theorem qcK(z:PassesOwn (model X.prog X.w) X.A X.env X.xe)(hc:PT X c tc)(hb:PSs X body tb):PS X (.While c body [] pos) (tWhile tc tb):=by
 intro pins s σ H D I h;obtain⟨W,⟨C,G⟩,g⟩:=h;show wpAny_While (codeAny_whileLoop (fun n s'=>∃ i H',Inv X pins i H' s'/\W n i H') ?_ C ⟨σ,H,I,G⟩);rintro n E ⟨d,t,B,J⟩;show xC z (thn (hc pins E d t _ B (g n d t J)) fun b F ⟨u,x,j⟩=>?_)
 cases b with
 | true =>
  obtain⟨N,y,j⟩:=j;rw[yG rfl];show xC z (thn (hb pins F d u _ x j) fun f K l=>?_)
  cases f with
  | next =>
   obtain⟨a,e,m,q⟩:=l;obtain⟨p,o,r⟩:=y a e q;show⟨p,o,a,e,m,r⟩
  | cont =>
   obtain⟨a,e,m,q⟩:=l;obtain⟨p,o,r⟩:=y a e q;show⟨p,o,a,e,m,r⟩
  | brk=>show l
  | ret v=>show l
 | false =>
  rw[yB Yh];show XT ⟨d,u,x,j⟩
end
structure It where
 go:Nat->Hp->Prop
 yld:Nat->Hp->V->Hp->Prop
 stop:Nat->Hp->Prop
def qdn(X:Cx)(pins:List (Addr×Obj))(H:Hp)(b:Addr):Prop:=
 H b=none/\b≠X.env.locals/\b∉X.fs/\(b∈X.ex\/X.s₀.heap.objs.size<=b)/\(∀ x c,X.env.cells.lookup x=some c->c≠b)/\∀ p∈X.pn++pins,p.1≠b
theorem Inv.fpOk{H':Hp}(I:Inv X pins σ H s)(hb:s.heap.objs.size<=b)(a:H' b=none):qdn X pins H' b:=by
 show⟨a,Xa (yj I.lt hb),I.nofs hb,.inr (yi I.sz hb),fun x c e z=>?_,fun p d z=>?_⟩
 .obtain⟨v,q⟩:=I.cell x c e;show absurd (yj q.lt (by rw[z];show hb)) (Yd _)
 .show absurd (yj (yF (I.pin p d).1) (by rw[z];show hb)) (Yd _)
structure Turn(P:Program)(w:World)(K:yg)(tg:Expr)(J:It)(fp:LI)(it:Addr)(tn:Nat->Heap->Prop):Prop where
 mem:it∈fp
 obj:∀ i h,tn i h->∀ b∈fp,∃ o,h.get? b=some o/\∀ v,o.data≠.cell v
 keep:∀ i h h',tn i h->(∀ b∈fp,∀ o,h.get? b=some o->h'.get? b=some o)->tn i h'
 item:∀(X:Cx),X.prog=P->X.w=w->X.K=K->X.calm=true->∀(i:Nat) (pins:List (Addr×Obj)) (s:Shared) (σ:St) (H:Hp) (E:Value->Shared->Prop),Inv X pins σ H s->(∀ b∈fp,qdn X pins H b)->tn i s.heap->J.go i H ->
  wpAny (model P w) X.A (pyNext (.ref it)) (fun r s1=>∃ u,r=some u /\
   wpAny (model P w) X.A (letOwnedTupleGo tg (.ref it) u) (fun _ s2=>∃ x H',Inv X pins σ H' s2/\RelV x u/\J.yld i H x H'/\tn (i+1) s2.heap/\∀ b∈fp,H' b=none) E s1) E s
 done:∀(X:Cx),X.prog=P->X.w=w->X.K=K->X.calm=true->∀(i:Nat) (pins:List (Addr×Obj)) (s:Shared) (σ:St) (H:Hp) (E:Value->Shared->Prop),Inv X pins σ H s->(∀ b∈fp,qdn X pins H b)->tn i s.heap->J.stop i H ->
  wpAny (model P w) X.A (pyNext (.ref it)) (fun r s1=>r=none/\Inv X pins σ H s1) E s
 self:∀(A:Around) (i:Nat) (s:Shared) (Q:Value->Shared->Prop) (E:Value->Shared->Prop),tn i s.heap->Q (.ref it) s->wpAny (model P w) A (pyIter (.ref it)) Q E s
abbrev TI:=St->Hp->(It->Hp->Prop)->Prop
def PIE(X:Cx)(pins:List (Addr×Obj))(σ:St)(tg:Expr)(R:It->Hp->Prop)(a:Value)(c:Shared):Prop:=
 ∃(it:Addr) (fp:LI) (d:Nat->Heap->Prop) (J:It) (H':Hp),a=.ref it/\Inv X pins σ H' c/\Turn X.prog X.w X.K tg J fp it d/\d 0 c.heap/\(∀ b∈fp,qdn X pins H' b)/\R J H'
def PI(X:Cx)(tg a:Expr)(c:TI):Prop:=
 ∀(pins:List (Addr×Obj)) (s:Shared) (σ:St) (H:Hp) (R:It->Hp->Prop),Inv X pins σ H s->c σ H R ->
  wpAny (model X.prog X.w) X.A (eval a X.env) (fun v b=>wpAny (model X.prog X.w) X.A (pyIter v) (PIE X pins σ tg R) X.xe b) X.xe s
theorem qeV{o:Obj}{n:String}{vs:Array Value}{Q:Unit->Shared->Prop}(d:s.heap.get? it=some o)(hc:o.cls=.type n)(b:o.data=.fields vs)
    (c:["enumerate","zip","dict_itemiterator","dict_reverseitemiterator","odict_iterator","itertools.zip_longest","itertools.pairwise"].contains n=false) (a:Q () s):wpAny M A (letOwnedTupleGo tg (.ref it) u) Q E s:=by
  unfold letOwnedTupleGo;cases tg<;>first
    | show yv a
    | (cases u<;>first
        | show yv a
        | (show yr (wpAny_load d ?_)
           rw[hc,b];show wpAny M A (if (["enumerate","zip","dict_itemiterator","dict_reverseitemiterator","odict_iterator","itertools.zip_longest","itertools.pairwise"].contains n&&vs[0]?==some (rawInt _))=true then _ else _) Q E s;rw[yB (by intro h;rw[c,Bool.false_and] at h;cases h)];show yv a))
noncomputable def Itl(K:yg)(a:Addr):It:=
 ⟨fun i H=>∃ xs x,SqL K H a xs/\xs[i]?=some x,fun i H x H'=>H'=H/\∀ xs,SqL K H a xs->xs[i]?=some x,fun i H=>∃ xs,SqL K H a xs/\xs.length<=i⟩
noncomputable def Itt(K:yg)(a:Addr):It:=
 ⟨fun i H=>∃ xs x,SqT K H a xs/\xs[i]?=some x,fun i H x H'=>H'=H/\∀ xs,SqT K H a xs->xs[i]?=some x,fun i H=>∃ xs,SqT K H a xs/\xs.length<=i⟩
noncomputable def Itr(lo:Int)(n:Nat):It:=⟨fun i _=>i<n,fun i H x H'=>H'=H/\x=.int (lo+i),fun i _=>n<=i⟩
theorem qbM{K:yg}(a it:Addr):Turn P w K tg (Itl K a) [it] it (fun i h=>h.IsListIter it a i) where
 mem:=by simp
 obj:=fun i h st b hb=>by
  have e:b=it:=by simpa using hb
  subst e;obtain⟨o,e,c,d⟩:=st;show⟨o,e,fun v z=>by rw[d] at z;cases z⟩
 keep:=fun i h h' st k=>st.at fun o e=>k it (by simp) o e
 item:=by
  intro X y hw t hc i pins s σ H E I g st A;subst y hw t;obtain⟨xs,x,j,B⟩:=A;obtain⟨C,D,p,N⟩:=I.list j;obtain⟨u,L,O⟩:=D.get B;obtain⟨l,m,J,n,q,r⟩:=g it (by simp);show wpAny_pyNext_list_item st p.isList (x:=u) (by simpa using L) fun h' f R=>?_;have F:Inv X pins σ H { s with heap:=h' }:=I.turned (t':=s.toks) (fun b o hb e=>(R.2 b hb).trans e) l m n q r;obtain⟨o,e,c,d⟩:=id f;show⟨u,rfl,qeV (s:={ s with heap:=h' }) e c d (by decide) ⟨x,H,F,O,⟨rfl,fun S M=>by rw[I.list_inj M j];show B⟩,f,fun b hb=>(g b hb).1⟩⟩
 done:=by
  intro X y hw t hc i pins s σ H E I g st A;subst y hw t;obtain⟨xs,j,B⟩:=A;obtain⟨C,D,p,N⟩:=I.list j;obtain⟨l,m,J,n,q,r⟩:=g it (by simp);have hl:=D.length;show wpAny_pyNext_list_end (I.ok.hd hc) st p.isList (by simp;lk) fun h' G=>⟨rfl,I.turned (t':=s.toks) (fun b o hb e=>G b o hb e) l m n q r⟩
 self:=fun _ _ _ _ _ st h=>wpAny_pyIter_listiter st h
theorem qba{K:yg}(a it:Addr):Turn P w K tg (Itt K a) [it] it (fun i h=>h.IsTupleIter it a i) where
 mem:=by simp
 obj:=fun i h st b hb=>by
  have e:b=it:=by simpa using hb
  subst e;obtain⟨o,e,c,d⟩:=st;show⟨o,e,fun v z=>by rw[d] at z;cases z⟩
 keep:=fun i h h' st k=>st.at fun o e=>k it (by simp) o e
 item:=by
  intro X A hw y hc i pins s σ H E I j st B;subst A hw y;obtain⟨xs,x,l,C⟩:=B;obtain⟨f,D,p,N⟩:=I.tuple l;obtain⟨u,L,O⟩:=D.get C;obtain⟨m,n,J,q,r,t⟩:=j it (by simp);show wpAny_pyNext_tuple_item st (show s.heap.IsTuple a f.toArray from p) (x:=u) (by simpa using L) fun h' g R=>?_;have F:Inv X pins σ H { s with heap:=h' }:=I.turned (t':=s.toks) (fun b o hb e=>(R.2 b hb).trans e) m n q r t;obtain⟨o,e,c,d⟩:=id g;show⟨u,rfl,qeV (s:={ s with heap:=h' }) e c d (by decide) ⟨x,H,F,O,⟨rfl,fun S M=>by rw[I.tuple_inj M l];show C⟩,g,fun b hb=>(j b hb).1⟩⟩
 done:=by
  intro X A hw y hc i pins s σ H E I j st B;subst A hw y;obtain⟨xs,l,C⟩:=B;obtain⟨f,D,p,N⟩:=I.tuple l;obtain⟨m,n,J,q,r,t⟩:=j it (by simp);have hl:=D.length;show wpAny_pyNext_tuple_end (I.ok.hd hc) st (show s.heap.IsTuple a f.toArray from p) (by simp;lk) fun h' G=>⟨rfl,I.turned (t':=s.toks) (fun b o hb e=>G b o hb e) m n q r t⟩
 self:=fun _ _ _ _ _ st h=>wpAny_pyIter_tupleiter st h
theorem turn_range{K:yg}(it:Addr)(lo:Int)(n:Nat):Turn P w K tg (Itr lo n) [it] it (fun i h=>IsRangeIter h it (lo+(i:Nat)*1) ((n:Int)-(i:Nat)) 1) where
 mem:=by simp
 obj:=fun i h st b hb=>by
  have e:b=it:=by simpa using hb
  subst e
  show⟨_,st,fun v z=>by
   have A:Data.fields _=Data.cell v:=z;cases A⟩
 keep:=fun i h h' st k=>k it (by simp) _ st
 item:=by
  intro X p hw m hc i pins s σ H E I c st q;subst p hw m;obtain⟨d,f,x,g,j,l⟩:=c it (by simp);have W:=Walks.range (prog:=X.prog) (w:=X.w) (I.ok.hd hc) it lo 1 n;show W.item i s _ _ q st fun v h' tk hv a y=>?_;obtain⟨t,rfl⟩:=hv;have r:Inv X pins σ H { s with heap:=h',toks:=tk }:=I.turned (fun b o hb e=>y b o (by simpa using hb) e) d f g j l;show⟨_,rfl,qeV (s:={ s with heap:=h',toks:=tk }) (n:="range_iterator") a rfl rfl (by decide) ⟨.int (lo+i),H,r,⟨t,?_⟩,⟨rfl,rfl⟩,a,fun b hb=>(c b hb).1⟩⟩;rw[Int.mul_one]
 done:=by
  intro X p hw m hc i pins s σ H E I c st q;subst p hw m;obtain⟨d,f,x,g,j,l⟩:=c it (by simp);show wpAny_pyNext_range_end (I.ok.hd hc) st (by have:n<=i:=q;lk) fun h' u=>⟨rfl,I.turned (t':=s.toks) (fun b o hb e=>u b o hb e) d f g j l⟩
 self:=fun _ _ _ _ _ st h=>wpAny_pyIter_rangeiter st h
section
variable{X:Cx}{tg:Expr}
def qfX(K:yg)(tl:TE):TI:=fun σ H R=>tl σ H fun x b=>∃ a,x=.ref a/\(∃ xs,SqT K b a xs)/\R (Itt K a) b
theorem pi_tup{l:Expr}{tl:TE}(hl:PE X l tl):PI X tg l (qfX X.K tl):=by
 intro pins s σ H R I h;show thn (hl pins s σ H _ I h) fun v c ⟨x,g,d,m,j⟩=>?_;obtain⟨a,e,⟨xs,i⟩,q⟩:=j;subst e;cases m;obtain⟨f,r,p,n⟩:=d.tuple i;show wpAny_pyIter_tuple (show c.heap.IsTuple a f.toArray from p) ?_;show⟨c.heap.objs.size,[c.heap.objs.size],_,_,g,rfl,d.kept (t':=c.toks) fun b o e=>yt _ e,qba a _,⟨_,yK _ rfl,rfl,rfl⟩,fun b hb=>?_,q⟩;have e:b=c.heap.objs.size:=by simpa using hb
 subst e;show d.fpOk (yh _) (d.hok.fresh (yh _))
theorem range_it{R:It->Hp->Prop}{a:Int}{t u v:Tok}{tk:Nat}(I:Inv X pins σ H s)(h1:-(2 ^ 62)<=lo)(g:lo<2 ^ 62)(h:-(2 ^ 62)<=a)(i:a<2 ^ 62)
  (q:R (Itr lo (a-lo).toNat) H):wpAny (model X.prog X.w) X.A (pyIter (.ref s.heap.objs.size)) (PIE X pins σ tg R) E { s with heap:=s.heap.push { cls:=.type "range",data:=.fields #[.int lo t,.int a u,.int 1 v] },toks:=tk }:=by
 show wpAny_pyIter_range (IsRange.new ..) (small_one h1 g h i) ?_;have c:Inv X pins σ H { s with heap:=s.heap.push { cls:=.type "range",data:=.fields #[.int lo t,.int a u,.int 1 v] },toks:=tk }:=I.kept fun b o e=>yt _ e;show⟨(s.heap.push { cls:=.type "range",data:=.fields #[.int lo t,.int a u,.int 1 v] }).objs.size,[(s.heap.push { cls:=.type "range",data:=.fields #[.int lo t,.int a u,.int 1 v] }).objs.size],_,_,H,rfl,
  c.kept (t':=tk) fun b o e=>yt _ e,turn_range _ lo (a-lo).toNat,?_,fun b hb=>?_,q⟩
 .have d:lo+((0:Nat):Int)*1=lo:=by simp
  have f:(((a-lo).toNat:Nat):Int)-((0:Nat):Int)=Builtin.Range.rangeSize lo a 1:=by rw[rangeSize_one];split<;>lk
  show IsRangeIter _ _ (lo+((0:Nat):Int)*1) ((((a-lo).toNat:Nat):Int)-((0:Nat):Int)) 1;rw[d,f];show yK _ rfl
 .have e:b=(s.heap.push { cls:=.type "range",data:=.fields #[.int lo t,.int a u,.int 1 v] }).objs.size:=by simpa using hb
  subst e;show c.fpOk (yh _) (c.hok.fresh (yh _))
def qfg(b:TA):TI:=fun σ H R=>b σ H fun vs a=>∃ j:Int,vs=[.int j]/\-(2 ^ 62)<=j/\j<2 ^ 62/\R (Itr 0 j.toNat) a
theorem jd{a:Expr}{c:TA}{p pos:Pos}(g:Gl X "range")(i:X.mg "range"=none)(f:PA X [a] c)(l:starEach [a] X.env=[(false,eval a X.env)]:=by rfl):PI X tg (.Call (.Name "range" p) [a] [] pos) (qfg c):=by
 intro pins s σ H R I h;show Call_ (qa8 I g i boot_range (PyProof.Rows.callWith_type1 (thn (f pos pins s σ H _ I h) fun us u ⟨vs,o,d,n,b⟩=>?_) l rfl));obtain⟨j,e,b,m,q⟩:=b;subst e
 cases n with
 | cons r rr =>
  cases rr;obtain⟨t,rfl⟩:=r;show call_range_1 (range_it d (by lk) (by lk) b m (by simpa using q))
def qfY(f:TI)(g:TG)(tb:TS):TS:=fun D σ H=>f σ H fun J d=>∃ W:Nat->Nat->St->Hp->Prop,(∃ m,W 0 m σ d)/\∀ i m σ H,W i m σ H ->
 (J.stop i H/\D.nx σ H)\/(J.go i H/\∃ N:St->Hp->Prop,(∀ a H',N a H'->∃ c,c<m/\W (i+1) c a H')/\∀ x H',J.yld i H x H'->g x σ H' fun b e=>tb { D with nx:=N,ct:=N,bk:=D.nx } b e)
noncomputable def qbN(fp:LI)(h:Heap):List (Addr×Obj):=fp.filterMap fun b=>(h.get? b).map fun o=>(b,o)
theorem zJ{o:Obj}(hb:b∈fp)(e:h.get? b=some o):(b,o)∈qbN fp h:=List.mem_filterMap.mpr ⟨b,hb,by rw[e];rfl⟩
theorem of_pinsAt{p:Addr×Obj}(c:p∈qbN fp h):p.1∈fp/\h.get? p.1=some p.2:=by
 obtain⟨b,hb,e⟩:=List.mem_filterMap.mp c
 cases q:h.get? b with
 | none=>rw[q] at e;cases e
 | some o =>
  rw[q] at e;have a:(b,o)=p:=ym e;subst a;show⟨hb,q⟩
theorem Inv.pinned(I:Inv X pins σ H s)(h:∀ b∈fp,qdn X pins H b)(i:∀ b∈fp,∃ o,s.heap.get? b=some o/\∀ v,o.data≠.cell v):Inv X (pins++qbN fp s.heap) σ H s:=
 I.pins_of fun p j=>(yH.mp j).elim (fun z=>I.pin p (yM _ z)) fun z=>by
  obtain⟨hb,e⟩:=of_pinsAt z;obtain⟨c,f,g,_⟩:=h p.1 hb;obtain⟨o,a,d⟩:=i p.1 hb;rw[e] at a;cases a;show⟨e,c,f,g,d⟩
theorem Inv.unpinned{pl:List (Addr×Obj)}(I:Inv X (pins++pl) σ H s):Inv X pins σ H s:=I.pins_of fun p a=>I.pin p (yM _ (Yb _ a))
theorem qU{p:Expr}{wi:TI}{pos:Pos}(E:PassesOwn (model X.prog X.w) X.A X.env X.xe)(hc:X.calm=true)(hi:PI X tg p wi)(hg:PG X tg g)(hb:PSs X body tb)
  (hs:∀ x,foldedSetIterable p X.env x=pure x:=by intro _;rfl):PS X (.For tg p body [] pos) (qfY wi g tb):=by
 intro pins s σ H D I h;show wpAny_For (thn (hi pins s σ H _ I h) fun v s1 h1=>thn h1 fun aa s2 h2=>?_) hs;obtain⟨it,fp,tn,J,H2,e,I2,T,U,f2,W,⟨m0,w0⟩,L⟩:=h2;subst e;have q:∀{H':Hp},(∀ b∈fp,H' b=none)->∀ b∈fp,qdn X pins H' b:=fun hn b hb=>⟨hn b hb,(f2 b hb).2⟩;show codeAny_forLoop_any (fun n s'=>∃ i t H',Inv X pins t H' s'/\tn i s'.heap/\(∀ b∈fp,H' b=none)/\W i n t H') ?_ m0 ⟨0,σ,H2,I2,U,fun b hb=>(f2 b hb).1,w0⟩;rintro n s3 ⟨i,y,M,I3,G,C,w3⟩;rcases L i n y M w3 with⟨K,qn⟩ | ⟨go,N,hN,step⟩
 .show xC E (thn (T.done X rfl rfl rfl hc i pins s3 y M X.xe I3 (q C) G K) fun r s4 ⟨R,I4⟩=>?_);subst R;show XT ⟨y,M,I4,qn⟩
 .show xC E (thn (T.item X rfl rfl rfl hc i pins s3 y M X.xe I3 (q C) G go) fun r s4 ⟨u,R,h4⟩=>?_);subst R;show xC E (thn h4 fun _ s5 ⟨x,Z,I5,r5,y5,B,P⟩=>?_);have O:=I5.pinned (q P) (T.obj _ _ B);show xC E (thn (hg _ s5 y Z x u _ O r5 (step x Z y5)) fun _ s6 ⟨Y,H6,I6,q6⟩=>?_);show xC E (thn (hb _ s6 Y H6 _ I6 q6) fun f S z=>?_)
  have l:∀{a:St} {c:Hp},Inv X (pins++qbN fp s5.heap) a c S->N a c->∃ m,m<n/\∃ i t H',Inv X pins t H' S/\tn i S.heap/\(∀ b∈fp,H' b=none)/\W i m t H':=fun{a c} j F=>by
   obtain⟨m',hm,w7⟩:=hN a c F;show⟨m',hm,i+1,a,c,j.unpinned,T.keep _ _ _ B fun b hb o e=>(j.pin (b,o) (yM _ (yM _ (zJ hb e)))).1,fun b hb=>?_,w7⟩;obtain⟨o,e,d⟩:=T.obj _ _ B b hb;show(j.pin (b,o) (yM _ (yM _ (zJ hb e)))).2.1
  cases f with
  | next=>obtain⟨a,c,j,F⟩:=z;show l j F
  | cont=>obtain⟨a,c,j,F⟩:=z;show l j F
  | brk=>obtain⟨a,c,j,z⟩:=z;show⟨a,c,j.unpinned,z⟩
  | ret v=>obtain⟨x7,a,c,j,r7,z⟩:=z;show⟨x7,a,c,j.unpinned,r7,z⟩
end
theorem qR{K:yg}(b:Nat->St->Hp->Prop)(l:b 0 σ H)(hl:∀ i σ H,i<=xs.length->b i σ H->SqL K H a xs)
  (r:∀ i x σ H,xs[i]?=some x->b i σ H->g x σ H fun d h=>tb { D with nx:=b (i+1),ct:=b (i+1),bk:=D.nx } d h) (n:∀ σ H,b xs.length σ H->D.nx σ H) :
  ∃ W:Nat->Nat->St->Hp->Prop,(∃ m,W 0 m σ H)/\∀ i m σ H,W i m σ H ->
   ((Itl K a).stop i H/\D.nx σ H)\/((Itl K a).go i H/\∃ N:St->Hp->Prop,(∀ c H',N c H'->∃ j,j<m/\W (i+1) j c H')/\∀ x H',(Itl K a).yld i H x H'->g x σ H' fun d h=>tb { D with nx:=N,ct:=N,bk:=D.nx } d h):=by
 show⟨fun i m σ H=>m=xs.length-i/\i<=xs.length/\b i σ H,⟨xs.length,by simp,yU _,l⟩,?_⟩;rintro i m σ H ⟨rfl,o,p⟩;have q:=hl i σ H o p;by_cases f:i<xs.length
 .show .inr ⟨⟨xs,xs[i],q,by simp[f]⟩,b (i+1),fun c H' s=>⟨xs.length-(i+1),by lk,rfl,f,s⟩,fun x H' y=>?_⟩;obtain⟨e,y⟩:=y;subst e;show r i x σ _ (y xs q) p
 .have e:i=xs.length:=by lk
  subst e;show .inl ⟨⟨xs,q,yh _⟩,n σ H p⟩
theorem for_tup{K:yg}(b:Nat->St->Hp->Prop)(l:b 0 σ H)(hl:∀ i σ H,i<=xs.length->b i σ H->SqT K H a xs)
  (r:∀ i x σ H,xs[i]?=some x->b i σ H->g x σ H fun d h=>tb { D with nx:=b (i+1),ct:=b (i+1),bk:=D.nx } d h) (n:∀ σ H,b xs.length σ H->D.nx σ H) :
  ∃ W:Nat->Nat->St->Hp->Prop,(∃ m,W 0 m σ H)/\∀ i m σ H,W i m σ H ->
   ((Itt K a).stop i H/\D.nx σ H)\/((Itt K a).go i H/\∃ N:St->Hp->Prop,(∀ c H',N c H'->∃ j,j<m/\W (i+1) j c H')/\∀ x H',(Itt K a).yld i H x H'->g x σ H' fun d h=>tb { D with nx:=N,ct:=N,bk:=D.nx } d h):=by
 show⟨fun i m σ H=>m=xs.length-i/\i<=xs.length/\b i σ H,⟨xs.length,by simp,yU _,l⟩,?_⟩;rintro i m σ H ⟨rfl,o,p⟩;have q:=hl i σ H o p;by_cases f:i<xs.length
 .show .inr ⟨⟨xs,xs[i],q,by simp[f]⟩,b (i+1),fun c H' s=>⟨xs.length-(i+1),by lk,rfl,f,s⟩,fun x H' y=>?_⟩;obtain⟨e,y⟩:=y;subst e;show r i x σ _ (y xs q) p
 .have e:i=xs.length:=by lk
  subst e;show .inl ⟨⟨xs,q,yh _⟩,n σ H p⟩
theorem zZ(a:Nat->St->Hp->Prop)(j:a 0 σ H)
  (o:∀ i σ H,i<n->a i σ H->g (.int (lo+i)) σ H fun d f=>tb { D with nx:=a (i+1),ct:=a (i+1),bk:=D.nx } d f) (l:∀ σ H,a n σ H->D.nx σ H) :
  ∃ W:Nat->Nat->St->Hp->Prop,(∃ m,W 0 m σ H)/\∀ i m σ H,W i m σ H ->
   ((Itr lo n).stop i H/\D.nx σ H)\/((Itr lo n).go i H/\∃ N:St->Hp->Prop,(∀ c H',N c H'->∃ h,h<m/\W (i+1) h c H')/\∀ x H',(Itr lo n).yld i H x H'->g x σ H' fun d f=>tb { D with nx:=N,ct:=N,bk:=D.nx } d f):=by
 show⟨fun i m σ H=>m=n-i/\i<=n/\a i σ H,⟨n,by simp,yU _,j⟩,?_⟩;rintro i m σ H ⟨rfl,r,p⟩;by_cases b:i<n
 .show .inr ⟨b,a (i+1),fun c H' q=>⟨n-(i+1),by lk,rfl,b,q⟩,fun x H' y=>?_⟩;obtain⟨e,y⟩:=y;subst e y;show o i σ _ b p
 .have e:i=n:=by lk
  subst e;show .inl ⟨yh _,l σ H p⟩
abbrev R2:=V->V->Hp->VK->Prop
def OpR(X:Cx)(f:Value->Value->Sem Value)(r:R2):Prop:=
 ∀(pins:List (Addr×Obj)) (s:Shared) (σ:St) (H:Hp) (x y:V) (v u:Value) (Q:VK),Inv X pins σ H s->RelV x v->RelV y u->r x y H Q ->
  wpAny (model X.prog X.w) X.A (f v u) (EP X pins σ Q) X.xe s
def UnR(X:Cx)(f:Value->Sem Value)(r:V->Hp->VK->Prop):Prop:=
 ∀(pins:List (Addr×Obj)) (s:Shared) (σ:St) (H:Hp) (x:V) (v:Value) (Q:VK),Inv X pins σ H s->RelV x v->r x H Q ->
  wpAny (model X.prog X.w) X.A (f v) (EP X pins σ Q) X.xe s
def jX(X:Cx)(f:Value)(r:List V->Hp->VK->Prop):Prop:=
 ∀(pins:List (Addr×Obj)) (s:Shared) (σ:St) (H:Hp) (xs:List V) (us:List Value) (Q:VK),Inv X pins σ H s->Vals xs us->r xs H Q ->
  wpAny (model X.prog X.w) X.A (call f us) (EP X pins σ Q) X.xe s
def tOp(r:R2)(c tb:TE):TE:=fun σ H Q=>c σ H fun x a=>tb σ a fun y b=>r x y b Q
def tUn(r:V->Hp->VK->Prop)(b:TE):TE:=fun σ H Q=>b σ H fun x a=>r x a Q
def rI(C:Int->Int->Prop)(g:Int->Int->V):R2:=fun x y H Q=>∃ i j,x=.int i/\y=.int j/\C i j/\Q (g i j) H
def rI0(g:Int->Int->V):R2:=fun x y H Q=>∃ i j,x=.int i/\y=.int j/\Q (g i j) H
def rU(g:Int->V):V->Hp->VK->Prop:=fun x H Q=>∃ i,x=.int i/\Q (g i) H
section
variable{X:Cx}{a b c:Expr}{ta tb tc:TE}{pos:Pos}
theorem qfE(m:PE X a ta)(hb:PE X b tb){R:V->V->Hp->Prop}(I:Inv X pins σ H s)
  (h:ta σ H fun x i=>tb σ i fun y c=>R x y c) {Q:Value->Shared->Prop}
  (n:∀ v u g x y c,Inv X pins σ c g->RelV x v->RelV y u->R x y c->wpAny (model X.prog X.w) X.A (f v u) Q X.xe g) :
  wpAny (model X.prog X.w) X.A (eval a X.env) (fun v d=>wpAny (model X.prog X.w) X.A (eval b X.env) (fun u e=>wpAny (model X.prog X.w) X.A (f v u) Q X.xe e) X.xe d) X.xe s:=by
 show thn (m pins s σ H _ I h) fun v t ⟨x,i,j,q,o⟩=>?_;show thn (hb pins t σ i _ j o) fun u g ⟨y,c,l,r,p⟩=>?_;show n v u g x y c l q r p
theorem qA{op:Operator}(f:OpR X (binaryOp op) r)(e:PE X a ta)(hb:PE X b tb):PE X (.BinOp a op b pos) (tOp r ta tb):=by
 intro pins s σ H Q I h;show wpAny_BinOp (qfE e hb I h fun v u j x y c d g i q=>f pins j σ c x y v u Q d g i q)
theorem qcn{op:UnaryOp}{r:V->Hp->VK->Prop}(e:UnR X (unaryOp op) r)(d:PE X a ta):PE X (.UnaryOp op a pos) (tUn r ta):=by
 intro pins s σ H Q I h;show UnaryOp_ (thn (d pins s σ H _ I h) fun v i ⟨x,b,c,g,f⟩=>e pins i σ b x v Q c g f)
theorem opI{C:Int->Int->Prop}{g:Int->Int->Int}
  (a:∀(i j:Int) (t u:Tok) (s:Shared) (Q:Value->Shared->Prop) (E:Value->Shared->Prop),C i j->Q (.int (g i j) s.toks) { s with toks:=s.toks+1 }->wpAny (model X.prog X.w) X.A (f (.int i t) (.int j u)) Q E s) :
  OpR X f (rI C fun i j=>.int (g i j)):=by
 intro pins s σ H x y v u Q I b c h;obtain⟨i,j,rfl,rfl,hc,q⟩:=h;obtain⟨t,rfl⟩:=b;obtain⟨t',rfl⟩:=c;show a i j t t' s _ _ hc ⟨.int (g i j),H,I.tok _,⟨_,rfl⟩,q⟩
theorem qfz{g:Int->Int->Int}
  (a:∀(i j:Int) (t u:Tok) (s:Shared) (Q:Value->Shared->Prop) (E:Value->Shared->Prop),Q (.int (g i j) s.toks) { s with toks:=s.toks+1 }->wpAny (model X.prog X.w) X.A (f (.int i t) (.int j u)) Q E s) :
  OpR X f (rI0 fun i j=>.int (g i j)):=by
 intro pins s σ H x y v u Q I b c h;obtain⟨i,j,rfl,rfl,q⟩:=h;obtain⟨t,rfl⟩:=b;obtain⟨t',rfl⟩:=c;show a i j t t' s _ _ ⟨.int (g i j),H,I.tok _,⟨_,rfl⟩,q⟩
theorem qfF{g:Int->Int->Bool}
  (a:∀(i j:Int) (t u:Tok) (s:Shared) (Q:Value->Shared->Prop) (E:Value->Shared->Prop),Q (.bool (g i j)) s->wpAny (model X.prog X.w) X.A (f (.int i t) (.int j u)) Q E s) :
  OpR X f (rI0 fun i j=>.bl (g i j)):=by
 intro pins s σ H x y v u Q I b c h;obtain⟨i,j,rfl,rfl,q⟩:=h;obtain⟨t,rfl⟩:=b;obtain⟨t',rfl⟩:=c;show a i j t t' s _ _ ⟨.bl (g i j),H,I,rfl,q⟩
def CDiv(i j:Int):Prop:=0<j/\j<1073741824
def qfZ(i j:Int):Prop:=0<=j/\j<=1000000/\i.natAbs<2 ^ 64
def CMul(i j:Int):Prop:=(-(2 ^ 64)<i/\i<2 ^ 64)\/(-(2 ^ 64)<j/\j<2 ^ 64)
theorem CMul.ok{i j:Int}(h:CMul i j):IntMulOk i j:=by
 rcases h with⟨h1,a⟩ | ⟨h1,a⟩
 .show .of_left (intBits_le_64 h1 a)
 .show .of_right (intBits_le_64 h1 a)
theorem two_pow_nn(k:Nat):(0:Int)<=2 ^ k:=by
 rw[two_pow_cast];show Int.natCast_nonneg _
theorem op_add:OpR X (binaryOp .Add) (rI0 fun i j=>.int (i+j)):=qfz fun _ _ _ _ _ _ _ q=>add_int q
theorem qcL:OpR X (binaryOp .Sub) (rI0 fun i j=>.int (i-j)):=qfz fun _ _ _ _ _ _ _ q=>sub_int q
theorem op_mul:OpR X (binaryOp .Mult) (rI CMul fun i j=>.int (i*j)):=opI fun _ _ _ _ _ _ _ hc q=>mul_int q hc.ok
theorem qbo:OpR X (binaryOp .FloorDiv) (rI CDiv fun i j=>.int (i / j)):=opI fun i j _ _ _ _ _ hc q=>by
 have h1:(0:Int)<j:=hc.1;have a:j<1073741824:=hc.2;show floordiv_int (by lk) (by rw[Int.fdiv_eq_ediv_of_nonneg i (by lk)];show q) (.inl (PyProof.noPylong_small (by lk)))
theorem zS:OpR X (binaryOp .Mod) (rI (fun _ j=>0<j) fun i j=>.int (i % j)):=opI fun i j _ _ _ _ _ hc q=>by
 have h1:(0:Int)<j:=hc;show mod_int' (by lk) (by rw[Int.fmod_eq_emod_of_nonneg i (by lk)];show q)
theorem op_pow:OpR X (binaryOp .Pow) (rI qfZ fun i j=>.int (i ^ j.toNat)):=opI fun _ _ _ _ _ _ _ hc q=>pow_int_small hc.1 hc.2.1 hc.2.2 q
theorem qen:OpR X (binaryOp .LShift) (rI qfZ fun i j=>.int (i*2 ^ j.toNat)):=opI fun _ _ _ _ _ _ _ hc q=>lshift_int_small hc.1 hc.2.1 hc.2.2 q
theorem op_shr:OpR X (binaryOp .RShift) (rI (fun _ j=>0<=j) fun i j=>.int (i / 2 ^ j.toNat)):=opI fun i j _ _ _ _ _ hc q =>
 rshift_int hc (by rw[Int.fdiv_eq_ediv_of_nonneg i (two_pow_nn _)];show q)
theorem op_and:OpR X (binaryOp .BitAnd) (rI0 fun i j=>.int (Builtin.bitAnd i j)):=qfz fun _ _ _ _ _ _ _ q=>and_int q
theorem qfh:OpR X (binaryOp .BitOr) (rI0 fun i j=>.int (Builtin.bitOr i j)):=qfz fun _ _ _ _ _ _ _ q=>or_int q
theorem unI{f:Value->Sem Value}{g:Int->Int}
  (a:∀(i:Int) (t:Tok) (s:Shared) (Q:Value->Shared->Prop) (E:Value->Shared->Prop),Q (.int (g i) s.toks) { s with toks:=s.toks+1 }->wpAny (model X.prog X.w) X.A (f (.int i t)) Q E s) :
  UnR X f (rU fun i=>.int (g i)):=by
 intro pins s σ H x v Q I b h;obtain⟨i,rfl,q⟩:=h;obtain⟨t,rfl⟩:=b;show a i t s _ _ ⟨.int (g i),H,I.tok _,⟨_,rfl⟩,q⟩
theorem qaQ:UnR X (unaryOp .USub) (rU fun i=>.int (-i)):=unI fun _ _ _ _ _ q=>neg_int q
end
noncomputable def scal:V->V->Bool
 | .non,.non=>true | .non,.int _=>true | .int _,.non=>true | .non,.bl _=>true | .bl _,.non=>true | .non,.str _=>true | .str _,.non=>true
 | .int _,.int _=>true | .bl _,.bl _=>true | .str _,.str _=>true | .byt _,.byt _=>true
 | .int _,.str _=>true | .str _,.int _=>true | .bl _,.str _=>true | .str _,.bl _=>true
 | _,_=>false
def rEq:R2:=fun x y H Q=>scal x y=true/\Q (.bl (decide (x=y))) H
theorem dec_bl{i j:Bool}:decide (V.bl i=V.bl j)=(i==j):=by
 rw[xD];simp
section
variable{X:Cx}{a b c:Expr}{ta tb tc:TE}{pos:Pos}
theorem qdy{Q:VK}{k k':Bool}(I:Inv X pins σ H s)(q:Q (.bl k) H)(e:k=k'):EP X pins σ Q (.bool k') s:=by
 subst e;show⟨.bl k,H,I,rfl,q⟩
theorem qdz:OpR X (compareOp .Lt) (rI0 fun i j=>.bl (decide (i<j))):=qfF fun _ _ _ _ _ _ _ q=>lt_int q
theorem op_le:OpR X (compareOp .LtE) (rI0 fun i j=>.bl (decide (i<=j))):=qfF fun _ _ _ _ _ _ _ q=>le_int q
theorem qbp:OpR X (compareOp .Gt) (rI0 fun i j=>.bl (decide (j<i))):=qfF fun _ _ _ _ _ _ _ q=>gt_int q
theorem op_isN:OpR X (compareOp .Is) (fun x y H Q=>y=.non/\Q (.bl (decide (x=.non))) H):=by
 intro pins s σ H x y v u Q I a b h;obtain⟨rfl,q⟩:=h;cases b;show is_none_gen (qdy I q ?_);cases x<;>first
  | (cases a;rfl)
  | (obtain⟨t,rfl⟩:=a;rfl)
theorem qx(b:Expr)(h:op≠.In:=by decide)(d:op≠.NotIn:=by decide):behindInMarks op b=false:=by
 have a:(op==CmpOp.In)=false:=by cases op<;>first | rfl | show absurd rfl h
 have c:(op==CmpOp.NotIn)=false:=by cases op<;>first | rfl | show absurd rfl d
 cases b<;>simp[behindInMarks,a,c]
theorem jo(g:OpR X (compareOp op) r)(e:PE X a ta)(hb:PE X b tb)(f:behindInMarks op b=false):PE X (.Compare a [op] [b] pos) (tOp r ta tb):=by
 intro pins s σ H Q I h;show wpAny_Compare1 (qfE e hb I h fun v u l x y c d i j q=>g pins l σ c x y v u Q d i j q) f
def qeW(t:TE):TT:=fun σ H Q=>t σ H fun x H'=>∃ k,x=.bl k/\Q k H'
theorem qk(o:OpR X (compareOp op) r)(m:PE X a ta)(hb:PE X b tb)(n:behindInMarks op b=false):PT X (.Compare a [op] [b] pos) (qeW (tOp r ta tb)):=by
 intro pins s σ H Q I h
 show wpAny_isTrue_Compare1 (thn (m pins s σ H _ I h) fun v C ⟨x,d,i,w,p⟩=>thn (hb pins C σ d _ i p) fun u D ⟨y,f,j,A,q⟩ =>
  thn (o pins D σ f x y v u _ j w A q) fun c E ⟨z,g,l,B,k,e,t⟩=>?_) n
 subst e;cases B;show Y9 ⟨g,l,t⟩
def qdA(r r':R2)(ta tb tc:TE):TE:=fun σ H Q=>ta σ H fun x b=>tb σ b fun y c=>r x y c fun z a=>∃ k,z=.bl k /\
 (if k=true then tc σ a fun e d=>r' y e d Q else Q (.bl false) a)
theorem qcM(B:OpR X (compareOp op) r)(f:OpR X (compareOp op') r')(w:PE X a ta)(hb:PE X b tb)(hc:PE X c tc)
  (A:lastMarks [op,op'] [b,c]=false:=by with_unfolding_all rfl):PE X (.Compare a [op,op'] [b,c] pos) (qdA r r' ta tb tc):=by
 intro pins s σ H Q I h
 show Compare_chain (thn (w pins s σ H _ I h) fun v K ⟨x,m,p,F,C⟩=>chain_link (thn (hb pins K σ m _ p C) fun u L ⟨y,n,q,l,D⟩ =>
  thn (B pins L σ n x y v u _ q F l D) fun d M ⟨z,g,i,G,k,e,j⟩=>?_)) A
 subst e;cases G;show Y9 ?_
 cases k with
 | false=>show ite_ff ⟨.bl false,g,i,rfl,j⟩
 | true=>show ite_tt (chain_last (thn (hc pins M σ g _ i j) fun O N ⟨P,o,t,J,E⟩=>f pins N σ o y P u O Q t l J E))
theorem qcN(F:OpR X (compareOp op) r)(f:OpR X (compareOp op') r')(D:PE X a ta)(hb:PE X b tb)(hc:PE X c tc)
  (E:lastMarks [op,op'] [b,c]=false:=by with_unfolding_all rfl):PT X (.Compare a [op,op'] [b,c] pos) (qeW (qdA r r' ta tb tc)):=by
 intro pins s σ H Q I h
 show isTrue_chain (thn (D pins s σ H _ I h) fun v S ⟨x,m,q,N,J⟩=>test_link (thn (hb pins S σ m _ q J) fun u T ⟨y,n,t,l,K⟩ =>
  thn (F pins T σ n x y v u _ t N l K) fun d U ⟨z,g,i,O,k,e,j⟩=>?_)) E
 subst e;cases O;show Y9 ?_
 cases k with
 | false =>
  obtain⟨k',B,G⟩:=j;cases B;show ite_ff ⟨g,i,G⟩
 | true =>
  show ite_tt (test_last (thn (hc pins U σ g _ i j) fun Y W ⟨Z,o,w,P,L⟩=>thn (f pins W σ o y Z u Y _ w l P L) fun d' s5 ⟨z2,p,A,R,k2,C,M⟩=>?_));subst C;cases R;show Y9 ⟨p,A,M⟩
theorem qbb:(sizeLine:Nat)<2 ^ 63:=by rw[Ys];decide
theorem op_add_str:OpR X (binaryOp .Add) (fun x y H Q=>∃ i j,x=.str i/\y=.str j/\i.length+j.length<=sizeLine/\Q (.str (i++j)) H):=by
 intro pins s σ H x y v u Q I b c h;obtain⟨i,j,rfl,rfl,a,q⟩:=h;obtain⟨t,rfl⟩:=b;obtain⟨t',rfl⟩:=c;show add_str (fun t' tk=>⟨.str (i++j),H,I.tok _,⟨_,rfl⟩,q⟩) a
theorem qaa{x:V}(r:Vals [x] us):∃ u,us=[u]/\RelV x u:=by
 cases r with
 | cons r1 r2=>cases r2;show⟨_,rfl,r1⟩
theorem qdo{x:V}(r:Vals [x,y] us):∃ u a,us=[u,a]/\RelV x u/\RelV y a:=by
 cases r with
 | cons r1 r2 =>
  cases r2 with
  | cons r3 r4=>cases r4;show⟨_,_,rfl,r1,r3⟩
theorem call_max2(hc:X.calm=true):jX X (.builtin "max") (fun xs H Q=>∃ i j,xs=[.int i,.int j]/\Q (.int (if j>i then j else i)) H):=by
 intro pins s σ H xs us Q I r h;obtain⟨i,j,rfl,q⟩:=h;obtain⟨u,b,rfl,⟨t,rfl⟩,⟨t',rfl⟩⟩:=qdo r;show max_two_ints (I.ok.hd hc) fun h' tk k=>⟨_,H,I.kept k,?_,q⟩;by_cases a:j>i
 .rw [yG a,yG a];show⟨_,rfl⟩
 .rw [yB a,yB a];show⟨_,rfl⟩
theorem call_min2(hc:X.calm=true):jX X (.builtin "min") (fun xs H Q=>∃ i j,xs=[.int i,.int j]/\Q (.int (if j<i then j else i)) H):=by
 intro pins s σ H xs us Q I r h;obtain⟨i,j,rfl,q⟩:=h;obtain⟨u,b,rfl,⟨t,rfl⟩,⟨t',rfl⟩⟩:=qdo r;show min_two_ints (I.ok.hd hc) fun h' tk k=>⟨_,H,I.kept k,?_,q⟩;by_cases a:j<i
 .rw [yG a,yG a];show⟨_,rfl⟩
 .rw [yB a,yB a];show⟨_,rfl⟩
end
structure ObjM(h:Heap)(x dx C:Addr)(mA:Str->Option Value):Prop where
 obj:h.get? x=some (PySem.W.instObj C dx)
 ns:h.Ns1 dx mA
 ne:dx≠x
theorem qbO{dx:Addr}(n:h.Ns1 dx mA):∃ od,h.get? dx=some od/\∀ name,PySem.W.lookIn name od=some (mA name):=by
 obtain⟨o,es,ep,i,d,f,_,g⟩:=n;show⟨o,i,fun name=>?_⟩;have e:=g name;unfold nsFind findBy at e;rw[<- Array.find?_toList] at e;unfold PySem.W.lookIn;rw[d];dsimp only;split
 .rename_i y q
  rw[q] at e;show congrArg some e
 .rename_i q
  rw[q] at e
  have a:es.toList.any (·.refKey)=false:=by
   rw[List.any_eq_false];intro y j;obtain⟨z,t,b⟩:=f y (Array.mem_toList_iff.mp j);simp[DictEntry.refKey,b]
  have c:¬ es.toList.any (·.refKey)=true:=by rw[a];show Yh
  rw[yB c];show congrArg some e
theorem ObjM.look{x dx:Addr}(I:ObjM h x dx C mA):∃ od,PySem.W.InstAt h x (PySem.W.instObj C dx) C (some od)/\∀ name,PySem.W.lookIn name od=some (mA name):=
 let ⟨od,ho,hl⟩:=qbO I.ns
 ⟨od,⟨I.obj,rfl,rfl,ho⟩,hl⟩
section
variable{prog:Program}{w:World}{A:Around}{E:Value->Shared->Prop}{s:Shared}{K:yg}{x dx C f:Addr}{mA:Str->Option Value}{name:Str}{v:Value}
theorem get_map{a:Bool}{Q:Value->Shared->Prop}(X:K.In s.heap)(I:ObjM s.heap x dx C mA)(d:PySem.W.plainGet K C name=true)(e:PySem.W.hasDictIn K C=true)
  (c:PySem.W.findIn K (.ref C) name=some none) (hv:mA name=some v) (b:PySem.W.handedIn v=true) (h:Q v { s with toks:=s.toks+1 }) :
  wpAny (model prog w) A (getAttr (.ref x) name a) Q E s:=by
 obtain⟨od,J,hl⟩:=I.look;show PySem.W.get_value X J (X4 d).1 (PySem.W.findObj_own e c rfl (by rw[hl,hv])) b h
theorem get_meth{Q:Value×List Value->Shared->Prop}(X:K.In s.heap)(I:ObjM s.heap x dx C mA)(a:PySem.W.plainGet K C name=true)
  (b:PySem.W.findIn K (.ref C) name=some (some (.ref f))) (c:PySem.W.isFn K (.ref f)=true) (hv:mA name=none) (h:Q (.ref f,[.ref x]) s) :
  wpAny (model prog w) A (getMethod (.ref x) name pl) Q E s:=by
 obtain⟨od,J,hl⟩:=I.look;show PySem.W.method_fn X J (X4 a).1 (X4 a).2 b (yY.mp c) (by show(PySem.W.lookIn name od).map (·.isSome)=some false;rw[hl,hv];rfl) h
theorem set_map{ns:LS}{Q:Unit->Shared->Prop}(X:K.In s.heap)(I:ObjM s.heap x dx C mA)
  (o:PySem.W.findIn K (.ref C) "__setattr__"=some (some (.builtin "object.__setattr__"))) (n:PySem.W.plainOver K C=true) (p:PySem.W.takerIn K C name=some none) (m:PySem.W.hasDictIn K C=true)
  (hw:PySem.Within mA ns) (hsz:ns.length<=sizeLine)
  (h:∀ h',ObjM h' x dx C (fun y=>if y=name then some v else mA y)->Heap.SameBut dx s.heap h'->Q () { s with heap:=h',toks:=s.toks+2 }) :
  wpAny (model prog w) A (setAttr (.ref x) name v) Q E s:=by
 obtain⟨od,J,hl⟩:=I.look;show PySem.W.set_plain X J o (PySem.W.osa_open (s:={ s with toks:=s.toks+1 }) (r:=none) X J n p fun b=>?_);obtain⟨t,hc,f⟩:=xH m;have q:s.heap.get? x=some ⟨.ref C,some dx,.plain,#[]⟩:=I.obj;show yr (yv (yr (yr (wpAny_loadPart q (yr (PySem.W.Looks.here (s:={ s with toks:=s.toks+1 }) (X5 X hc) ?_))))));rw[f];show yv (a:=some dx) (yr (yv (yr ?_)));show wpAny_nsSet1 (s:={ s with toks:=s.toks+1 }) I.ns fun h' c d=>?_;obtain⟨u,l,j,i,g,e⟩:=c.count (PySem.Within.cons name v hw);show yr (wpAny_lookBehind i (by rw[g];show pastItsLine_dict (yi e (by rw[yC];lk))) ?_);show yv (h _ ⟨(d.2 _ (Yq I.ne)).trans I.obj,c,I.ne⟩ d)
theorem make_map{R:Result->Shared->Prop}{vs:List Value}(X:K.In s.heap)(c:PySem.W.makesIn K C=true)
  (b:PySem.W.findIn K (.ref C) "__init__"=some (some (.ref f))) (a:PySem.W.typeIn K (.ref f)=some (.type "function"))
  (h:codeAny (model prog w) (A.under (.builtin "type.__call__" ⟨.ref C::vs,kw⟩)) (.call (.ref f) ⟨.ref (s.heap.objs.size+1)::vs,kw⟩) (PySem.W.InitBack (s.heap.objs.size+1) R)
   { s with heap:=(s.heap.push PySem.W.emptyDict).push (PySem.W.instObj C s.heap.objs.size) }) :
  codeAny (model prog w) A (.call (.ref C) ⟨vs,kw⟩) R s:=by
 obtain⟨e,g,d,t,i⟩:=s;show PySem.W.make_core (PySem.W.makes_of X c) (YJ X b) (fun self=>PySem.W.bind_fn X self a) (.inl rfl) h
end
noncomputable def jN(f:Str)(v:V):List (Str×V)->List (Str×V)
 | []=>[(f,v)]
 | (g,x)::r=>if g=f then(g,v)::r else(g,x)::jN f v r
theorem qz(f g:Str)(v:V):∀ fs:List (Str×V),(jN f v fs).lookup g=if g=f then some v else fs.lookup g
 | []=>by
  show List.lookup g [(f,v)]=_;by_cases h:g=f
  .have hb:(g==f)=true:=yY.mpr h;simp only[List.lookup,hb,yG h]
  .have hb:(g==f)=false:=Yr.mpr h;simp only[List.lookup,hb,yB h]
 | (k,x)::r=>by
  have b:=qz f g v r;rw[show jN f v ((k,x)::r)=(if k=f then(k,v)::r else(k,x)::jN f v r) from rfl];by_cases a:k=f
  .rw [yG a];by_cases h:g=k
   .have hb:(g==k)=true:=yY.mpr h;simp only[List.lookup,hb,yG (h.trans a)]
   .have hb:(g==k)=false:=Yr.mpr h;simp only[List.lookup,hb,yB (fun e:g=f=>h (e.trans a.symm))]
  .rw [yB a];by_cases h:g=k
   .have hb:(g==k)=true:=yY.mpr h;simp only[List.lookup,hb,yB (fun e:g=f=>a (h.symm.trans e))]
   .have hb:(g==k)=false:=Yr.mpr h;simp only[List.lookup,hb];show b
theorem qaR(f:Str)(v:V):∀ fs:List (Str×V),f∈(jN f v fs).map (·.1)/\∀ g,g∈fs.map (·.1)->g∈(jN f v fs).map (·.1)
 | []=>⟨by simp[jN],fun g h=>by simp at h⟩
 | (k,x)::r=>by
  obtain⟨b,c⟩:=qaR f v r;rw[show jN f v ((k,x)::r)=(if k=f then(k,v)::r else(k,x)::jN f v r) from rfl];by_cases a:k=f
  .rw [yG a];subst a;show⟨by simp,fun g h=>by simpa using h⟩
  .rw [yB a];show⟨?_,fun g h=>?_⟩
   .rw [yJ];show yu _ b
   .rw [yJ] at h ⊢;rcases yA.mp h with e | e
    .show yA.mpr (.inl e)
    .show yu _ (c g e)
theorem jQ(f:Str)(v:V):∀ fs:List (Str×V),(jN f v fs).length<=fs.length+1
 | []=>by simp[jN]
 | (k,x)::r=>by
  have b:=jQ f v r;rw[show jN f v ((k,x)::r)=(if k=f then(k,v)::r else(k,x)::jN f v r) from rfl];by_cases a:k=f
  .rw [yG a,yC,yC];lk
  .rw [yB a,yC,yC];lk
theorem RelO.some_of{o:Option Value}(r:RelO (some v) o):∃ u,o=some u/\RelV v u:=by
 cases o with
 | none=>show(show False from r).elim
 | some u=>show⟨u,rfl,r⟩
theorem RelO.none_of{o:Option Value}(r:RelO none o):o=none:=by
 cases o with
 | none=>rfl
 | some u=>show(show False from r).elim
theorem qbP(r:RelV v u):PySem.W.handedIn u=true:=by
 cases v with
 | non=>cases (show u=Value.none from r);rfl
 | bl b=>cases (show u=Value.bool b from r);rfl
 | int i=>obtain⟨t,e⟩:=(show ∃ t,u=Value.int i t from r);cases e;rfl
 | str x=>obtain⟨t,e⟩:=(show ∃ t,u=Value.str x t from r);cases e;rfl
 | byt b=>obtain⟨t,e⟩:=(show ∃ t,u=Value.bytes b t from r);cases e;rfl
 | flt b=>obtain⟨t,e⟩:=(show ∃ t,u=Value.float b t from r);cases e;rfl
 | ref a=>cases (show u=Value.ref a from r);rfl
 | ty n=>cases (show u=Value.type n from r);rfl
section
variable{P:Program}{w:World}{H H':Hp}{h h':Heap}{a C dx:Addr}{fs fs':List (Str×V)}
theorem qax(b:HOk P w H h)(e:H a=some (.ins C dx fs)):∃ mA,ObjM h a dx C mA/\(∀ f,RelO (fs.lookup f) (mA f))/\PySem.Within mA (fs.map (·.1))/\fs.length<=1000/\H dx=some (.own a):=by
 obtain⟨d,z,ne,c,mA,n,r,q⟩:=(show ObjOk P w H h a (.ins C dx fs) from b a _ e);show⟨mA,⟨c,n,ne⟩,r,q,z,d⟩
end
structure Cls(K:yg)(C:Addr):Prop where
 pg:PySem.W.plainGet K C Str.empty=true
 hd:PySem.W.hasDictIn K C=true
 po:PySem.W.plainOver K C=true
 sa:PySem.W.findIn K (.ref C) "__setattr__"=some (some (.builtin "object.__setattr__"))
theorem Cls.get{K:yg}(c:Cls K C)(f:Str):PySem.W.plainGet K C f=true:=c.pg
def NoAttr(K:yg)(C:Addr)(f:Str):Prop:=PySem.W.findIn K (.ref C) f=some none
theorem NoAttr.taker{K:yg}{f:Str}(n:NoAttr K C f):PySem.W.takerIn K C f=some none:=by
 unfold PySem.W.takerIn;rw[show PySem.W.findIn K (.ref C) f=some none from n];rfl
structure Con(K:yg)(C:Addr)(f:Str)(v:V)(u:Value):Prop where
 at_:PySem.W.findIn K (.ref C) f=some (some u)
 rel:RelV v u
 get:PySem.W.specialIn K u "__get__"=some none
 cp:PySem.W.copiedNames.contains f=false
structure Meth(K:yg)(C:Addr)(m:Str)(f:Addr):Prop where
 at_:PySem.W.findIn K (.ref C) m=some (some (.ref f))
 fn:PySem.W.isFn K (.ref f)=true
 kp:PySem.W.keepIn K (.ref f)=true
section
variable{X:Cx}{pins:List (Addr×Obj)}{σ:St}{H:Hp}{s:Shared}{a C dx:Addr}{fs:List (Str×V)}{f:Str}{v:V}{A:Around}{E:Value->Shared->Prop}
theorem getattr_ok{b:Bool}{Q:Value->Shared->Prop}(I:Inv X pins σ H s)(e:H a=some (.ins C dx fs))(c:Cls X.K C)(n:NoAttr X.K C f)(l:fs.lookup f=some v)
  (h:∀ u s',Inv X pins σ H s'->RelV v u->Q u s'):wpAny (model X.prog X.w) A (getAttr (.ref a) f b) Q E s:=by
 obtain⟨mA,O,r,_,_,_⟩:=qax I.hok e;obtain⟨u,g,d⟩:=RelO.some_of (v:=v) (o:=mA f) (by rw[<- l];show r f);show get_map I.kIn O (c.get f) c.hd n g (qbP d) (h u _ (I.tok _) d)
theorem qbc{m:Str}{g:Addr}{Q:Value×List Value->Shared->Prop}(I:Inv X pins σ H s)(e:H a=some (.ins C dx fs))(c:Cls X.K C)(k:Meth X.K C m g)(l:fs.lookup m=none)
  (h:Q (.ref g,[.ref a]) s):wpAny (model X.prog X.w) A (getMethod (.ref a) m pl) Q E s:=by
 obtain⟨mA,O,r,_,_,_⟩:=qax I.hok e;have b:mA m=none:=RelO.none_of (by rw[<- l];show r m);show get_meth I.kIn O (c.get m) k.at_ k.fn b h
theorem setattr_ok{Q:Unit->Shared->Prop}(I:Inv X pins σ H s)(e:H a=some (.ins C dx fs))(c:Cls X.K C)(n:NoAttr X.K C f)(hl:fs.length<1000)(t:RelV y u)
  (h:∀ s',Inv X pins σ (upd H a (.ins C dx (jN f y fs))) s'->Q () s'):wpAny (model X.prog X.w) A (setAttr (.ref a) f u) Q E s:=by
 obtain⟨mA,O,r,j,_,i⟩:=qax I.hok e;have p:(fs.map (·.1)).length<=sizeLine:=by rw[ya,Ys];lk
 show set_map I.kIn O c.sa c.po n.taker c.hd j p fun h' d v=>h _ ?_;have l:∃ o,h'.get? dx=some o:=let ⟨o,_,_,e',_⟩:=d.ns;⟨o,e'⟩;show I.write (x:=a) (e:=dx) (by rw[e];show YK) (.inr i) (fun b q hb z=>(v.2 b hb).trans z) l ?_;show⟨by rw[qh O.ne];show i,?_,O.ne,d.obj,_,d.ns,fun g=>?_,fun g m=>?_⟩
 .have:=jQ f y fs;lk
 .show RelO ((jN f y fs).lookup g) (if g=f then some u else mA g);rw[qz];by_cases q:g=f
  .rw [yG q,yG q];show t
  .rw [yB q,yB q];show r g
 .by_cases q:g=f
  .rw [q];show(qaR f y fs).1
  .show(qaR f y fs).2 g (j g fun z=>m ?_);show(if g=f then some u else mA g)=none;rw[yB q];show z
theorem Inv.made(I:Inv X pins σ H s):Inv X pins σ (upd (upd H s.heap.objs.size (.own (s.heap.objs.size+1))) (s.heap.objs.size+1) (.ins C s.heap.objs.size []))
  { s with heap:=(s.heap.push PySem.W.emptyDict).push (PySem.W.instObj C s.heap.objs.size) }:=by
 have c:(s.heap.push PySem.W.emptyDict).get? s.heap.objs.size=some PySem.W.emptyDict:=yK s.heap rfl
 have f:((s.heap.push PySem.W.emptyDict).push (PySem.W.instObj C s.heap.objs.size)).get? (s.heap.objs.size+1)=some (PySem.W.instObj C s.heap.objs.size):=by
  have:=yK (s.heap.push PySem.W.emptyDict) (o:=PySem.W.instObj C s.heap.objs.size) rfl
  rwa[YL] at this
 have g:(s.heap.push PySem.W.emptyDict).Ns s.heap.objs.size (fun _=>none):=⟨PySem.W.emptyDict,#[],_,c,rfl,(fun e h=>absurd h (by simp)),fun _=>rfl⟩;have d:=I.laid (a:=s.heap.objs.size) (o:=.own (s.heap.objs.size+1)) (h':=s.heap.push PySem.W.emptyDict) (t':=s.toks) (fun b u q=>yt _ q) (yh _) ⟨_,c⟩;show d.laid (a:=s.heap.objs.size+1) (o:=.ins C s.heap.objs.size []) (t':=s.toks) (fun b u q=>yt _ q) (Xb (YL _ _)) ?_;have ne:s.heap.objs.size≠s.heap.objs.size+1:=yN (xI _);show⟨by rw[qh ne,qc],yU _,ne,f,fun _=>none,(Heap.Ns1.of_empty g).at fun o q=>yt _ q,fun _=>YK,fun y i=>absurd rfl i⟩
theorem attr_of{prog:Program}{env:Env}{f:Str}{pos:Pos}{Q:Value->Shared->Prop}(hb:attributeBase e f env (eval e env)=eval e env)
  (h:wpAny (model prog w) A (eval e env) (fun o a=>wpAny (model prog w) A (getAttr o f true) Q E a) E s):wpAny (model prog w) A (eval (.Attribute e f pos) env) Q E s:=
 Attribute_any_ h (by rw[arm_eval_Attribute,hb])
end
section
variable{X:Cx}{o e value:Expr}{f:Str}{pos pos' tpos:Pos}{ta tv:TE}
end
section
variable{X:Cx}{pins:List (Addr×Obj)}{σ:St}{H:Hp}{s:Shared}{A:Around}{E:Value->Shared->Prop}{Q:Value->Shared->Prop}{c:Value}{b:Bool}
inductive TyOf(K:yg)(H:Hp):V->Value->Prop where
 | non:TyOf K H .non (.type "NoneType")
 | bl (x:Bool):TyOf K H (.bl x) (.type "bool")
 | int (i:Int):TyOf K H (.int i) (.type "int")
 | str (x:Str):TyOf K H (.str x) (.type "str")
 | flt (x:UInt64):TyOf K H (.flt x) (.type "float")
 | lst {a:Addr} {xs:List V} (e:H a=some (.lst xs)):TyOf K H (.ref a) (.type "list")
 | frz {a:Addr} {o:Obj} {xs:List V} (e:H a=some (.frz o (.lst xs))):TyOf K H (.ref a) (.type "list")
 | tup {a:Addr} {xs:List V} (e:H a=some (.tup xs)):TyOf K H (.ref a) (.type "tuple")
 | dK {a:Addr} {kvs:List (Key×V)} (e:H a=some (.dK kvs)):TyOf K H (.ref a) (.type "dict")
 | dT {a:Addr} {kvs:List (List Key×V)} (e:H a=some (.dT kvs)):TyOf K H (.ref a) (.type "dict")
 | ins {a C dx:Addr} {fs:List (Str×V)} (e:H a=some (.ins C dx fs)) (cl:Cls K C) (ha:PySem.W.findIn K (.ref C) "__class__"=some (some (.builtin "object.__class__")))
   (hn:PySem.W.specialIn K (.builtin "object.__class__") "__get__"=some (some (.builtin "getset_descriptor.__get__"))) (htk:PySem.W.takesIn K (.builtin "object.__class__")=some true)
   (hm:PySem.W.mroIn K C (.type "object")=some true):TyOf K H (.ref a) (.ref C)
end
structure Room(k:Nat)(A:Around):Prop where
 hd:A.handled=none
 dp:A.depth+3*k+5<recursionLimit
 un:A.units+16*k+200<cLine
 gd:A.guards=some []
theorem Room.mono{k:Nat}(r:Room k A)(h:j<=k):Room j A:=⟨r.hd,by have:=r.dp;lk,by have:=r.un;lk,r.gd⟩
theorem Room.deeper{k:Nat}(r:Room (k+1) A)(env:Env):Room k (A.deeper env):=
 ⟨r.hd,by have:=r.dp;show A.depth+1+3*k+5<_;lk,by have:=r.un;show A.units+3+16*k+200<_;lk,r.gd⟩
theorem Room.in1{k:Nat}(r:Room (k+1) A):Room k A.in1:=
 ⟨r.hd,by have:=r.dp;show A.depth+3*k+5<_;lk,by have:=r.un;show A.units+1+16*k+200<_;lk,r.gd⟩
theorem make_depth:(A.under (.builtin "type.__call__" ⟨.ref C::us,kw⟩)).depth=A.depth+1:=by
 first | rfl | simp[Around.under,Code.weight,Code.isCreation,Code.isGuard,Code.isCaller,Code.frames,Code.isFrame,guardIds]
theorem make_units:(A.under (.builtin "type.__call__" ⟨.ref C::us,kw⟩)).units=A.units+1:=by
 first | rfl | simp[Around.under,Code.cUnits,Code.frames,Code.isFrame]
theorem make_guards:(A.under (.builtin "type.__call__" ⟨.ref C::us,kw⟩)).guards=A.guards:=by
 first | rfl | simp[Around.under,Code.guards,Code.isGuard,guardIds,pushGuards]
theorem Room.make{k:Nat}(r:Room (k+1) A)(C:Addr)(us:List Value)(kw:List (Str×Value)):Room k (A.under (.builtin "type.__call__" ⟨.ref C::us,kw⟩)):=
 ⟨r.hd,by have:=r.dp;rw[make_depth];lk,by have:=r.un;rw[make_units];lk,by rw[make_guards];show r.gd⟩
theorem Room.depth{k:Nat}(r:Room k A):A.depth<recursionLimit:=by have:=r.dp;lk
def qfi:TA:=fun _ H Q=>Q [] H
def qeb(c:TE)(d:TA):TA:=fun σ H Q=>c σ H fun x a=>d σ a fun xs b=>Q (x::xs) b
section
variable{X:Cx}{e:Expr}{es:List Expr}{te:TE}{t:TA}{pos:Pos}
theorem qd:PA X [] qfi:=fun _ _ _ _ H Q I h=>Calls.spliced_nil ⟨[],H,I,.nil,h⟩
theorem qa(f:PE X e te)(g:PA X es t)(i:starEach (e::es) X.env=(false,eval e X.env)::starEach es X.env:=by rfl):PA X (e::es) (qeb te t):=by
 intro pos pins s σ H Q I h;rw[i];show wpAny _ _ (spliced ((false,eval e X.env)::backTo pos (starEach es X.env))) _ _ s;show Calls.spliced_cons (thn (f pins s σ H _ I h) fun u o ⟨x,a,c,m,j⟩=>?_);show thn (g pos pins o σ a _ c j) fun us p ⟨xs,b,d,n,l⟩=>⟨x::xs,b,d,.cons m n,l⟩
inductive NewT(xs:List V)(H:Hp)(Q:VK):Prop|mk (_:xs.length<=sizeLine) (_:∀ p,H p=none->Q (.ref p) (upd H p (.tup xs)))
inductive NewL(xs:List V)(H:Hp)(Q:VK):Prop|mk (_:xs.length<=sizeLine) (_:∀ p,H p=none->Q (.ref p) (upd H p (.lst xs)))
def qf0(t:TA):TE:=fun σ H Q=>t σ H fun xs a=>NewT xs a Q
def qf1(t:TA):TE:=fun σ H Q=>t σ H fun xs a=>NewL xs a Q
theorem qV{x1}(h:PA X es t):PE X (.Tuple es x1 pos) (qf0 t):=by
 intro pins s σ H Q I g;show wpAny_Tuple_spliced (thn (h pos pins s σ H _ I g) fun us a ⟨xs,c,d,r,z,q⟩=>⟨by rw[<- r.length];show z,?_⟩);have f:c a.heap.objs.size=none:=d.hok.fresh (yh _);show⟨.ref a.heap.objs.size,upd c a.heap.objs.size (.tup xs),d.laid (t':=a.toks) (fun b u e=>yt _ e) (yh _) ?_,rfl,q _ f⟩;show⟨z,us,r,⟨_,yK _ rfl,rfl,_,rfl⟩⟩
theorem qK(h:PA X es t):PE X (.List es pos) (qf1 t):=by
 intro pins s σ H Q I g;show wpAny_List_spliced (thn (h pos pins s σ H _ I g) fun us a ⟨xs,c,d,r,z,q⟩=>⟨by rw[<- r.length];show z,?_⟩);have f:c a.heap.objs.size=none:=d.hok.fresh (yh _);show⟨.ref a.heap.objs.size,upd c a.heap.objs.size (.lst xs),d.laid (t':=a.toks) (fun b u e=>yt _ e) (yh _) ?_,rfl,q _ f⟩;show⟨z,us,0,r,yK _ rfl⟩
end
abbrev Sp:=List V->Hp->VK->XK->Prop
abbrev CXT:=List Env->Hp->Shared->XK->Value->Shared->Prop
structure Env0(P:Program)(w:World)(K:yg)(mg:Str->Option Value)(base:Heap)(A:Around)(outer:List Env)(s:Shared)(H:Hp):Prop where
 frames:A.frames=some outer
 mod:Mod K mg base
 bs:∀ b o,base.get? b=some o->s.heap.get? b=some o/\H b=none
 bsz:base.objs.size<=s.heap.objs.size
 funs:s.heap.FunFrames base outer
 frf:∀ b∈frs outer,H b=none
 hok:HOk P w H s.heap
 bare:AllBare s.gens
def CE(outer:List Env)(P:Program)(w:World)(H:Hp)(s:Shared)(Q:VK)(u:Value)(s':Shared):Prop:=
 ∃ v H',s'.os=s.os/\AllBare s'.gens/\Un (frs outer) [] H H' s.heap s'.heap/\HOk P w H' s'.heap/\RelV v u/\Q v H'
def CR(CX:CXT)(outer:List Env)(P:Program)(w:World)(H:Hp)(s:Shared)(Q:VK)(E:XK)(r:Result)(s':Shared):Prop:=
 match r with
 | .ok (.ret u)=>CE outer P w H s Q u s'
 | .ok _=>False
 | .error e=>CX outer H s E e s'
structure FnOk(P:Program)(w:World)(K:yg)(mg:Str->Option Value)(base:Heap)(CX:CXT)(k:Nat)(f:Addr)(fd:FuncData)(ps:LS)(sp:Sp):Prop where
 len:∀ vs H Q E,sp vs H Q E->vs.length=ps.length
 run:∀(A:Around) (outer:List Env) (s:Shared) (H:Hp) (args:Args) (us:List Value) (vs:List V) (Q:VK) (E:XK),Room k A->Env0 P w K mg base A outer s H->BindsTo s fd args (ps.zip us)->Vals vs us->sp vs H Q E ->
  codeAny (model P w) A (.call (.ref f) args) (CR CX outer P w H s Q E) s
theorem Env0.make{K:yg}(e:Env0 P w K mg base A outer s H)(C:Addr)(us:List Value)(kw:List (Str×Value)) :
  Env0 P w K mg base (A.under (.builtin "type.__call__" ⟨.ref C::us,kw⟩)) outer s H:=⟨by first | show e.frames | (simpa [Around.under,Code.envs,Code.isFrame,pushEnvs] using e.frames),e.mod,e.bs,e.bsz,e.funs,e.frf,e.hok,e.bare⟩
section
variable{X:Cx}{pins:List (Addr×Obj)}{σ:St}{H:Hp}{s s':Shared}
theorem Inv.env0(I:Inv X pins σ H s):Env0 X.prog X.w X.K X.mg X.base X.A X.stack s H:=
 ⟨I.ok.frames,I.ok.mod,I.bs,yi I.ok.bsz I.sz,I.stack,I.stkFree,I.hok,I.bare⟩
theorem Inv.after{Q:VK}(I:Inv X pins σ H s)(h:CE X.stack X.prog X.w H s Q u s'):EP X pins σ Q u s':=by
 obtain⟨v,H',i,a,un,c,r,q⟩:=h;obtain⟨f,g,d,t,e⟩:=s';obtain rfl:e=s.os:=i;show⟨v,H',I.call (h':=f) (g':=g) (d':=d) (t':=t) (ch:=[]) un c a (fun b z=>absurd z (by simp)),r,q⟩
end
def qco(sp:Sp)(a:List V)(E:XK)(t:TA):TE:=fun σ H Q=>t σ H fun vs b=>sp (vs++a) b Q E
inductive MeR(C:Addr)(m:Str)(x:V)(H:Hp)(k:Prop):Prop|mk (a dx:Addr) (fs:List (Str×V)) (_:x=.ref a) (_:H a=some (.ins C dx fs)) (_:fs.lookup m=none) (_:k)
def qdB(C:Addr)(m:Str)(sp:Sp)(a:List V)(E:XK)(d:TE)(t:TA):TE:=fun σ H Q=>d σ H fun x b=>MeR C m x b (t σ b fun vs c=>sp (x::(vs++a)) c Q E)
def qeX(C:Addr)(sp:Sp)(b:List V)(E:XK)(t:TA):TE:=fun σ H Q=>t σ H fun vs a=>∀ x dx,a x=none->a dx=none->dx≠x ->
 sp (.ref x::(vs++b)) (upd (upd a dx (.own x)) x (.ins C dx [])) (fun v c=>v=.non/\Q (.ref x) c) E
def Binds(K:yg)(b:FuncData)(ps:LS)(a:List Value):Prop:=
 ∀(s:Shared) (us:List Value),K.In s.heap->(us++a).length=ps.length->BindsTo s b ⟨us,[]⟩ (ps.zip (us++a))
theorem Binds.all{K:yg}{a:FuncData}(h:∀ us:List Value,us.length=ps.length->bindArgs a ⟨us,[]⟩=pure (ps.zip us)):Binds K a ps []:=fun s us _ hl=>by
 rw[Yt] at hl ⊢;show .of_eq (h us hl)
def zE(CX:CXT)(X:Cx)(E:XK):Prop:=∀(pins:List (Addr×Obj)) (σ:St) (H:Hp) (s:Shared) (e:Value) (s':Shared),Inv X pins σ H s->CX X.stack H s E e s'->X.xe e s'
section
variable{X:Cx}{CX:CXT}{k:Nat}{f C:Addr}{fd:FuncData}{ps:LS}{sp:Sp}{dvs:List V}{ds:List Value}{E:XK}{x m:Str}{p pos apos:Pos}{e o:Expr}{es:List Expr}{ta:TE}{t:TA}
theorem qcO{Q:VK}(F:FnOk X.prog X.w X.K X.mg X.base CX k f fd ps sp)(d:Room k X.A)(hb:Binds X.K fd ps ds)(c:Vals dvs ds)(g:zE CX X E)
  (I:Inv X pins σ H s) (r:Vals vs us) (h:sp (vs++dvs) H Q E):wpAny (model X.prog X.w) X.A (call (.ref f) us) (EP X pins σ Q) X.xe s:=by
 have b:Vals (vs++dvs) (us++ds):=r.append c;have hl:(us++ds).length=ps.length:=by rw[<- b.length];show F.len _ _ _ _ h
 show xj (Y6 (F.run X.A X.stack s H ⟨us,[]⟩ (us++ds) (vs++dvs) Q E d I.env0 (hb s us I.kIn hl) b h) fun r s' a=>?_)
 cases r with
 | error e=>show g pins σ H s e s' I a
 | ok fl =>
  cases fl with
  | ret u=>show I.after a
  | next=>show False.elim a
  | brk=>show False.elim a
  | cont=>show False.elim a
theorem pe_call(F:FnOk X.prog X.w X.K X.mg X.base CX k f fd ps sp)(n:Room k X.A)(j:Gl X x)(m:X.mg x=some (.ref f))(l:PySem.W.keepIn X.K (.ref f)=true)(hb:Binds X.K fd ps ds)(g:Vals dvs ds)(o:zE CX X E)
  (d:PA X (e::es) t) (a:(x==("__debug__":Str))=false:=by decide) (i:starEach (e::es) X.env=(false,eval e X.env)::starEach es X.env:=by rfl) (b:(backTo pos (starEach es X.env)).any (·.1)=false:=by rfl) :
  PE X (.Call (.Name x p) (e::es) [] pos) (qco sp dvs E t):=by
 intro pins s σ H Q I h;show YR (zB I j m ?_ a);show Y4 (h₀:=X.base) I.ok.mod.kin l (thn (d pos pins s σ H _ I h) fun us v ⟨vs,u,c,r,q⟩=>⟨c.kIn,?_⟩) i b;show qcO F n hb g o c r q
theorem pe_meth(B:PE X o ta)(c:Cls X.K C)(j:Meth X.K C m f)(F:FnOk X.prog X.w X.K X.mg X.base CX k f fd ps sp)(D:Room k X.A)(hb:Binds X.K fd ps ds)(z:Vals dvs ds)(J:zE CX X E)(y:PA X (e::es) t)
  (d:starEach (e::es) X.env=(false,eval e X.env)::starEach es X.env:=by rfl) (b:(backTo pos (starEach es X.env)).any (·.1)=false:=by rfl)
  (G:eval (.Call (.Attribute o m apos) (e::es) [] pos) X.env=(do
   let ov <- eval o X.env
   standAt apos.atName
   let (f,first) <- holding [ov] (getMethod ov m pl)
   callWith pos f first (backTo pos (starEach (e::es) X.env)) (backToKw pos (keywordEach [] X.env))):=by rfl) :
  PE X (.Call (.Attribute o m apos) (e::es) [] pos) (qdB C m sp dvs E ta t):=by
 intro pins s σ H Q I h;show xU (pl:=pl) (thn (B pins s σ H _ I h) fun u N ⟨x,n,g,M,a,dx,fs,v,p,l,q⟩=>?_) G;subst v;obtain rfl:u=Value.ref a:=M;show qbc g p c j l ?_;show Y4 (first:=[.ref a]) (h₀:=X.base) I.ok.mod.kin j.kp (thn (y pos pins N σ n _ g q) fun us P ⟨vs,O,i,r,L⟩=>⟨i.kIn,?_⟩) d b;show qcO (us:=.ref a::us) (vs:=.ref a::vs) F D hb z J i (.cons rfl r) L
theorem pe_meth0(j:PE X o ta)(c:Cls X.K C)(d:Meth X.K C m f)(F:FnOk X.prog X.w X.K X.mg X.base CX k f fd ps sp)(n:Room k X.A)(hb:Binds X.K fd ps ds)(i:Vals dvs ds)(r:zE CX X E)
  (p:eval (.Call (.Attribute o m apos) [] [] pos) X.env=(do
   let ov <- eval o X.env
   standAt apos.atName
   let (f,first) <- holding [ov] (getMethod ov m pl)
   callWith pos f first (backTo pos (starEach [] X.env)) (backToKw pos (keywordEach [] X.env))):=by rfl) :
  PE X (.Call (.Attribute o m apos) [] [] pos) (qdB C m sp dvs E ta qfi):=by
 intro pins s σ H Q I h;show xU (pl:=pl) (thn (j pins s σ H _ I h) fun u y ⟨x,v,b,t,a,dx,fs,g,e,l,q⟩=>?_) p;subst g;obtain rfl:u=Value.ref a:=t;show qbc b e c d l ?_;show PySem.W.callWith_K0 (first:=[.ref a]) b.kIn d.kp (qcO (us:=[.ref a]) (vs:=[.ref a]) F n hb i r b (.cons rfl .nil) q)
structure Mk(K:yg)(C f:Addr):Prop where
 makes:PySem.W.makesIn K C=true
 init:PySem.W.findIn K (.ref C) "__init__"=some (some (.ref f))
 fn:PySem.W.isFn K (.ref f)=true
 kp:PySem.W.keepIn K (.ref C)=true
theorem run_make{Q:VK}(M:Mk X.K C f)(F:FnOk X.prog X.w X.K X.mg X.base CX k f fd ps sp)(m:Room (k+1) X.A)(hb:Binds X.K fd ps ds)(l:Vals dvs ds)
  (n:zE CX X E) (I:Inv X pins σ H s) (r:Vals vs us)
  (h:∀ x dx,H x=none->H dx=none->dx≠x->sp (.ref x::(vs++dvs)) (upd (upd H dx (.own x)) x (.ins C dx [])) (fun v g=>v=.non/\Q (.ref x) g) E) :
  wpAny (model X.prog X.w) X.A (call (.ref C) us) (EP X pins σ Q) X.xe s:=by
 have c:=h (s.heap.objs.size+1) s.heap.objs.size (I.hok.fresh (xF _)) (I.hok.fresh (yh _)) (yN (xI _));have b:=Inv.made (C:=C) I;have d:Vals (V.ref (s.heap.objs.size+1)::(vs++dvs)) (Value.ref (s.heap.objs.size+1)::(us++ds)):=.cons rfl (r.append l)
 have hl:(Value.ref (s.heap.objs.size+1)::us++ds).length=ps.length:=by
  have e:=d.length;rw[F.len _ _ _ _ c] at e;show e.symm
 show xj (make_map (f:=f) I.kIn M.makes M.init (yY.mp M.fn) (Y6 (F.run _ X.stack _ _ ⟨Value.ref (s.heap.objs.size+1)::us,[]⟩ (Value.ref (s.heap.objs.size+1)::(us++ds)) _ _ E (m.make C us [])
  (b.env0.make C us []) (hb _ (Value.ref (s.heap.objs.size+1)::us) b.kIn hl) d c) fun r s' a=>?_))
 cases r with
 | error e=>show n pins σ _ _ e s' b a
 | ok fl =>
  cases fl with
  | ret u =>
   obtain⟨v,H',i,p,j,o⟩:=b.after a;subst j;show⟨p,⟨V.ref (s.heap.objs.size+1),H',i,rfl,o⟩⟩
  | next=>show False.elim a
  | brk=>show False.elim a
  | cont=>show False.elim a
theorem pe_make(M:Mk X.K C f)(F:FnOk X.prog X.w X.K X.mg X.base CX k f fd ps sp)(m:Room (k+1) X.A)(j:Gl X x)(l:X.mg x=some (.ref C))(hb:Binds X.K fd ps ds)(g:Vals dvs ds)(n:zE CX X E)
  (d:PA X (e::es) t) (a:(x==("__debug__":Str))=false:=by decide) (i:starEach (e::es) X.env=(false,eval e X.env)::starEach es X.env:=by rfl) (b:(backTo pos (starEach es X.env)).any (·.1)=false:=by rfl) :
  PE X (.Call (.Name x p) (e::es) [] pos) (qeX C sp dvs E t):=by
 intro pins s σ H Q I h;show YR (zB I j l ?_ a);show Y4 (h₀:=X.base) I.ok.mod.kin M.kp (thn (d pos pins s σ H _ I h) fun us u ⟨vs,o,c,r,q⟩=>⟨c.kIn,?_⟩) i b;show run_make M F m hb g n c r q
end
section
variable{X:Cx}{CX:CXT}{k:Nat}{f C:Addr}{fd:FuncData}{ps ks:LS}{sp:Sp}{E:XK}{x m:Str}{p pos apos kpos:Pos}{e o:Expr}{es:List Expr}{kws:List Keyword}{te ta:TE}{t tk:TA}{nm:Option Str}
structure KBinds(K:yg)(fd:FuncData)(ps ks:LS)(g:List Value->List Value->List Value)(gV:List V->List V->List V):Prop where
 to:∀(s:Shared) (us ws:List Value),K.In s.heap->(g us ws).length=ps.length->BindsTo s fd ⟨us,ks.zip ws⟩ (ps.zip (g us ws))
 rel:∀{vs:List V} {us:List Value} {zs:List V} {ws:List Value},Vals vs us->Vals zs ws->Vals (gV vs zs) (g us ws)
variable{g:List Value->List Value->List Value}{gV:List V->List V->List V}
end
structure FnScope(N P:LS)(sc:Scope):Prop where
 kind:sc.kind=.function
 co:sc.isCoroutine=false
 gen:sc.isGenerator=false
 nd:N.Nodup
 pre:N.take P.length=P
 par:∀ x∈P,sc.names.lookup x=some .local\/sc.names.lookup x=some .cell
 nofree:∀ y∈sc.names,y.2≠.free
theorem fS{P:LS}(a:sc.kind=.function:=by rfl)(b:sc.isCoroutine=false:=by rfl)(c:sc.isGenerator=false:=by rfl)(d:N.Nodup:=by room)(e:N.take P.length=P:=by rfl)(f:∀ x∈P,sc.names.lookup x=some .local\/sc.names.lookup x=some .cell:=by room)(g:∀ y∈sc.names,y.2≠.free:=by room):FnScope N P sc:=⟨a,b,c,d,e,f,g⟩
theorem qbQ:∀{binds:List (Str×Value)} {m:Str->Option Value},(∀ v,(x,v)∉binds)->bindL kindOf binds m x=m x
 | [],_,_=>rfl
 | (n,v)::r,m,h=>by
  unfold bindL;rw[qbQ fun w hw=>h w (yu _ hw)];split
  .have:x≠n:=by rintro rfl;show h v yy
   simp[this]
  .rfl
theorem qbR:∀{binds:List (Str×Value)} {m:Str->Option Value},(∀ v,(x,v)∉binds)->bindC kindOf binds m x=m x
 | [],_,_=>rfl
 | (n,v)::r,m,h=>by
  unfold bindC;rw[qbR fun w hw=>h w (yu _ hw)];split
  .rfl
  .have:x≠n:=by rintro rfl;show h v yy
   simp[this]
theorem qbS{v:Value}:∀{P:LS} {vs:List Value} {i:Nat} {m:Str->Option Value},P.Nodup->P[i]?=some x->vs[i]?=some v->kindOf x=some .local ->
  bindL kindOf (P.zip vs) m x=some v
 | [],_,_,_,_,h,_,_=>by simp at h
 | _::_,[],_,_,_,_,h,_=>by simp at h
 | p::P,w::vs,0,m,nd,h1,h2,hk=>by
  simp at h1 h2;subst h1;subst h2;show bindL kindOf ((p,w)::P.zip vs) m p=_;unfold bindL;rw[qbQ fun v hv=>(yo.mp nd).1 (XU hv).1,yG hk];simp
 | p::P,w::vs,i+1,m,nd,h1,h2,hk=>by
  show bindL kindOf ((p,w)::P.zip vs) m x=_;unfold bindL;show qbS (i:=i) (yo.mp nd).2 (by simpa using h1) (by simpa using h2) hk
theorem qbT{v:Value}:∀{P:LS} {vs:List Value} {i:Nat} {m:Str->Option Value},P.Nodup->P[i]?=some x->vs[i]?=some v->kindOf x≠some .local ->
  bindC kindOf (P.zip vs) m x=some v
 | [],_,_,_,_,h,_,_=>by simp at h
 | _::_,[],_,_,_,_,h,_=>by simp at h
 | p::P,w::vs,0,m,nd,h1,h2,hk=>by
  simp at h1 h2;subst h1;subst h2;show bindC kindOf ((p,w)::P.zip vs) m p=_;unfold bindC;rw[qbR fun v hv=>(yo.mp nd).1 (XU hv).1,yB hk];simp
 | p::P,w::vs,i+1,m,nd,h1,h2,hk=>by
  show bindC kindOf ((p,w)::P.zip vs) m x=_;unfold bindC;show qbT (i:=i) (yo.mp nd).2 (by simpa using h1) (by simpa using h2) hk
noncomputable def start(N:LS)(vs:List V):St:=vs.map some++List.replicate (N.length-vs.length) none
noncomputable def qcp(CX:CXT)(P:Program)(w:World)(K:yg)(mg:Str->Option Value)(base:Heap)(N:LS)(qual:Str)(scope:Scope)(f:Addr)(b:Value)(A:Around)(outer:List Env)(s:Shared)(H:Hp)(E:XK):Cx where
 prog:=P
 w:=w
 K:=K
 mg:=mg
 base:=base
 A:=A.deeper (envOfC qual scope s.heap.objs.size f b)
 N:=N
 s₀:=s
 H₀:=H
 env:=envOfC qual scope s.heap.objs.size f b
 outer:=outer
 stack:=envOfC qual scope s.heap.objs.size f b::outer
 ex:=[]
 calm:=true
 fn:=fun _=>true
 pn:=[]
 xe:=fun e s'=>wpAny (model P w) (A.deeper (envOfC qual scope s.heap.objs.size f b)) (leaving (envOfC qual scope s.heap.objs.size f b) e) (fun _ a=>CX outer H s E e a) (fun c a=>CX outer H s E c a) s'
theorem qcP(h:sc.names.lookup x=some .cell):∃ c,(cellsFrom n sc.names []).lookup x=some c:=by
 have q:=Xs sc.names n [] (.inl h);show Xg.mp q
theorem qbU{K:yg}{f:Addr}{o:Value}{D:Shared}{E:XK}
  (S:FnScope N ps scope) (G:A.handled=none) (g:Env0 P w K mg base A outer s H) (hl:vs.length=ps.length) (r:Vals vs us)
  (x:InCallC s s.heap.objs.size (bindL (envOfC qual scope s.heap.objs.size f o).kindOf (ps.zip us) fun _=>none) (cellsFrom (s.heap.objs.size+1) scope.names []) (bindC (envOfC qual scope s.heap.objs.size f o).kindOf (ps.zip us) fun _=>none) D) :
  Inv (qcp CX P w K mg base N qual scope f o A outer s H E) [] (start N vs) H D:=by
 have I:ps.length<=N.length:=by have:=congrArg List.length S.pre;rw[yL] at this;lk
 obtain⟨h1,tk,rfl,B⟩:=x.done;have j:∀ b:Addr,b∉(qcp CX P w K mg base N qual scope f o A outer s H E).ex:=fun b z=>absurd (show b∈([]:LI) from z) (by simp);show⟨⟨g.mod,S.kind,rfl,rfl,yh _,fun y z c h1 d=>?_,fun y hy=>?_,fun y c _ h=>?_,fun _=>G,XM g.frames,.inr ⟨rfl,rfl⟩,fun b z=>absurd z (j b),g.bs,g.bsz,fun b _ _=>j b,fun b z=>absurd z (j b),g.funs,g.frf⟩,
  rfl,g.bare,Un.kept B,⟨_,x.toInCall.ns,fun i y v h1 d L=>?_⟩,fun y c h=>⟨_,x.cell y c h⟩,g.hok.fresh (yh _),fun y c h=>?_,fun p l=>absurd (show p∈([]:List (Addr×Obj)) from l) (by simp),g.hok.kept B,?_⟩
 .show name_of_addr x.apart (YX h1) (YX d)
 .have hy:scope.names.lookup y=some .cell\/scope.names.lookup y=some .free:=hy;rcases hy with hy | hy
  .show qcP hy
  .show absurd rfl (S.nofree _ (YX hy))
 .show yP (x.above y c (YX h))
 .have t:i<vs.length:=by
   unfold start at d;by_cases t:i<vs.length
   .show t
   .rw [Yv (by simpa using t)] at d;rw[Xo] at d;split at d<;>cases d
  have F:vs[i]?=some v:=by
   unfold start at d;rw[yT (by simpa using t),yd] at d
   cases e:vs[i]? with
   | none=>rw[e] at d;cases d
   | some a=>rw[e] at d;cases d;rfl
  obtain⟨u,C,J⟩:=r.get F
  have l:ps[i]?=some y:=by
   rw[<- S.pre,List.getElem?_take_of_lt (by lk)];show h1
  have m:ps.Nodup:=by rw[<- S.pre];show S.nd.sublist (km _ _)
  show⟨u,J,?_⟩;rcases S.par y (ye l) with k | k
  .show .inl ⟨k,qbS m l C k⟩
  .obtain⟨c,e⟩:=qcP (n:=s.heap.objs.size+1) k;show .inr ⟨.inl k,c,e,?_⟩;have q:=x.cell y c e;rw[qbT m l C (by show scope.names.lookup y≠_;rw[k];decide)] at q;show q
 .show g.hok.fresh (yP (x.above y c (YX h)))
 .unfold start;show _=N.length;rw[yz,ya,xA];lk
theorem qec{K:yg}{k:Nat}{f:Addr}{name:Str}{c:Arguments}{M kV j O a ct oc:Value}{L od:Option Addr}
  {D:Array (Option Value)} {sp:Sp} (lk:K.lookup f=some ⟨oc,od,.func (PySem.W.fnOf name qual c body scope M kV j O L a ct),D⟩) (z:PySem.W.codeIn K a qual=true) (S:FnScope N ps scope)
  (len:∀ vs H Q E,sp vs H Q E->vs.length=ps.length)
  (g:∀(A:Around) (outer:List Env) (s:Shared) (H:Hp) (vs:List V) (Q:VK) (E:XK),Room k (A.deeper (envOfC qual scope s.heap.objs.size f a))->sp vs H Q E ->
   ∃ t,PSs (qcp CX P w K mg base N qual scope f a A outer s H E) body t/\t { nx:=fun _ H'=>Q .non H',rt:=Q } (start N vs) H) :
  FnOk P w K mg base CX (k+1) f (PySem.W.fnOf name qual c body scope M kV j O L a ct) ps sp:=by
 show⟨len,fun A outer s H args us vs Q E B l hb r p=>?_⟩;have hl:=len _ _ _ _ p;have G:K.In s.heap:=l.mod.kin.keeps fun b o e=>(l.bs b o e).1;have C:s.heap.NoLimit:=l.mod.nolimit.keeps fun b o e=>(l.bs b o e).1
 have h:∀ y∈ps.zip us,scope.names.lookup y.1=some .local\/(scope.names.lookup y.1=some .cell/\((cellsFrom (s.heap.objs.size+1) scope.names []).lookup y.1).isSome=true):=fun⟨n,v⟩ Z=>by
  rcases S.par n (XU Z).1 with q | q
  .show .inl q
  .show .inr ⟨q,Xs _ _ _ (.inl q)⟩
 show codeAny_call_function B.depth (G _ _ lk) rfl S.co S.gen rfl (PySem.W.codeRec_of G z) (hb _ _ _ _ ?_);show wpAny_newFunctionEnv_cells S.kind h fun env U R x=>?_;subst U;show⟨C.keeps x.toInCall.keep,codeAny_func ?_⟩;obtain⟨t,Y,X⟩:=g A outer s H vs Q E (B.deeper _) p;have I:Inv (qcp CX P w K mg base N qual scope f a A outer s H E) [] (start N vs) H R:=qbU S B.hd l hl r x;show Ym (Y [] R (start N vs) H _ I X) (fun T s' i=>?_) fun e s' i=>i
 have m:∀{d:St} {H':Hp} {v:V} {u:Value},Inv (qcp CX P w K mg base N qual scope f a A outer s H E) [] d H' s'->RelV v u->Q v H'->CE outer P w H s Q u s':=
  fun{d H' v u} J F q=>⟨v,H',J.os,J.bare,J.base,J.hok,F,q⟩
 cases T with
 | ret u =>
  obtain⟨v,d,H',J,F,q⟩:=i;show m J F q
 | next =>
  obtain⟨d,H',J,q⟩:=i;show m (v:=V.non) (u:=Value.none) J rfl q
 | brk =>
  obtain⟨_,_,_,q⟩:=i;show False.elim q
 | cont =>
  obtain⟨_,_,_,q⟩:=i;show False.elim q
section
variable{X:Cx}{x:Str}{p pos:Pos}{e:Expr}{es:List Expr}{t:TA}{id T:String}{r:List V->Hp->VK->Prop}
def tCB(r:List V->Hp->VK->Prop)(t:TA):TE:=fun σ H Q=>t σ H fun vs a=>r vs a Q
theorem qj(hc:jX X (.builtin id) r)(i:Gl X x)(j:X.mg x=none)(hv:bootBuiltins x=some (.builtin id))(f:PA X (e::es) t)(l:x≠"__name__":=by decide)(a:(x==("__debug__":Str))=false:=by decide)
  (g:starEach (e::es) X.env=(false,eval e X.env)::starEach es X.env:=by rfl) (b:(backTo pos (starEach es X.env)).any (·.1)=false:=by rfl):PE X (.Call (.Name x p) (e::es) [] pos) (tCB r t):=by
 intro pins s σ H Q I h;show YR (qa8 I i j hv ?_ l a);show PyProof.Rows.callWith_builtin1 (thn (f pos pins s σ H _ I h) fun us o ⟨vs,c,d,n,m⟩=>hc pins o σ c vs us Q d n m) g b
theorem je(hc:jX X (.type T) r)(i:Gl X x)(j:X.mg x=none)(hv:bootBuiltins x=some (.type T))(f:PA X (e::es) t)(l:x≠"__name__":=by decide)(a:(x==("__debug__":Str))=false:=by decide)
  (g:starEach (e::es) X.env=(false,eval e X.env)::starEach es X.env:=by rfl) (b:(backTo pos (starEach es X.env)).any (·.1)=false:=by rfl):PE X (.Call (.Name x p) (e::es) [] pos) (tCB r t):=by
 intro pins s σ H Q I h;show YR (qa8 I i j hv ?_ l a);show PyProof.Rows.callWith_type1 (thn (f pos pins s σ H _ I h) fun us o ⟨vs,c,d,n,m⟩=>hc pins o σ c vs us Q d n m) g b
end
end L2
namespace HT
open PySem PyProof.Rows
variable{hi lo:Option Int}{sl t:Addr}{vl vu:Value}
noncomputable def lexLt:LQ->LQ->Bool
 | [],[]=>false
 | [],_::_=>true
 | _::_,[]=>false
 | x::xs,y::ys=>if x=y then lexLt xs ys else decide (x<y)
section
open PySem.SeqAt
open PySem.AutoSeq1 (wpAny_loadPart')
open PySem.MeetsSeq PySem.MeetsSeq2 PySem.MeetsSeq3
end
section
variable{prog:Program}{w:World}{A:Around}{E:Value->Shared->Prop}{s:Shared}
theorem cat_tup{b:Addr}{vs a:List Value}{Q:Value->Shared->Prop}(r:IsTup s.heap t vs.toArray)(hb:IsTup s.heap b a.toArray)(hv:vs≠[])
  (h1:a=[]->Q (.ref t) s) (q:a≠[]->Q (.ref s.heap.objs.size) { s with heap:=s.heap.push { cls:=.type "tuple",data:=.seq (vs++a).toArray } })
  (hsz:vs.length+a.length<=sizeLine):wpAny (model prog w) A (binaryOp .Add (.ref t) (.ref b)) Q E s:=by
 obtain⟨⟨cls,m,data,sl⟩,i,hc,n,o⟩:=id r;obtain⟨⟨l,d,j,h⟩,c,f,p,g⟩:=id hb;simp only at hc o f g;subst hc o f g;have e:vs.toArray++a.toArray=(vs++a).toArray:=by simp
 by_cases hw:a=[]
 .show concat_meets ⟨_,i,rfl⟩ ⟨_,c,rfl⟩ noFill_tuple_add seq_tuple_add PySem.F.slot_tuple_add PySem.F.entry_tuple_add (PySem.F.args_tuple_add_2 _ _)
   (tuple_addW1 t b vs.toArray a.toArray n p m d sl h (by simpa using hv) (by simp[hw])) ⟨i,c,h1 hw⟩
 .show concat_meets ⟨_,i,rfl⟩ ⟨_,c,rfl⟩ noFill_tuple_add seq_tuple_add PySem.F.slot_tuple_add PySem.F.entry_tuple_add (PySem.F.args_tuple_add_2 _ _)
   (tuple_addW2 t b vs.toArray a.toArray n p m d sl h (by simpa using hv) (by simpa using hw) (by rw[yw,yw];show hsz)) ⟨i,c,?_⟩
  rw[e];show q hw
noncomputable def sIx(n d:Nat):Option Int->Nat
 | none=>d
 | some v=>if v<0 then(v+(n:Int)).toNat else min v.toNat n
theorem sIx_nat(n d k:Nat):sIx n d (some (k:Int))=min k n:=by
 show(if (k:Int)<0 then((k:Int)+(n:Int)).toNat else min (k:Int).toNat n)=min k n;rw[yB (by lk),Yj]
theorem sIx_le(n d:Nat)(a:d<=n)(o:Option Int):sIx n d o<=n:=by
 cases o with
 | none=>show a
 | some v =>
  show(if v<0 then(v+(n:Int)).toNat else min v.toNat n)<=n;by_cases hv:v<0
  .rw [yG hv];lk
  .rw [yB hv];show XD _ _
theorem qdC(v:Int)(n d:Nat):(if v<0 then max (v+(n:Int)) 0 else min v (n:Int))=((sIx n d (some v):Nat):Int):=by
 show(if v<0 then max (v+(n:Int)) 0 else min v (n:Int))=(((if v<0 then(v+(n:Int)).toNat else min v.toNat n):Nat):Int);by_cases hv:v<0
 .simp only[yG hv];lk
 .simp only[yB hv];lk
theorem adjust_gen(lo hi:Option Int)(n:Nat):Builtin.Slice.sliceAdjust lo hi 1 (n:Int)=(((sIx n 0 lo:Nat):Int),((sIx n n hi:Nat):Int)):=by
 have h1:¬ ((1:Int)<0):=by lk
 unfold Builtin.Slice.sliceAdjust;simp only[h1,ke];show Xu ?_ ?_
 .cases lo with
  | none=>rfl
  | some v=>show qdC v n 0
 .cases hi with
  | none=>rfl
  | some v=>show qdC v n n
theorem places_gen(i j:Nat):Builtin.Slice.slicePlaces (i:Int) (j:Int) 1=j-i:=by
 unfold Builtin.Slice.slicePlaces;have h1:(1:Int)>0:=by lk
 simp only[h1,Xi,kW];split<;>lk
theorem qay{v:Value}{o:Option Int}{Q:Option Int->Shared->Prop}(p:IsPart v o)(h:Q o s):wpAny (model prog w) A (Builtin.Slice.slicePartIndex v) Q E s:=by
 cases p with
 | none=>show kf h
 | int i t=>show slicePart_int h
theorem sliceApplied_gen{n:Nat}{Q:Int×Int×Nat->Shared->Prop}(d:s.heap.IsSliceOf sl vl vu .none)(pl:IsPart vl lo)(e:IsPart vu hi)
  (h:Q (((sIx n 0 lo:Nat):Int),1,sIx n n hi-sIx n 0 lo) s):wpAny (model prog w) A (Builtin.Slice.sliceApplied (.ref sl) (pure (n:Int))) Q E s:=by
 obtain⟨f,b,c,a⟩:=id d;unfold Builtin.Slice.sliceApplied Builtin.Slice.sliceFields;show yr (yr (xG b a (x:=vl) rfl (yr (xG b a (x:=vu) rfl (yr (xG b a (x:=.none) rfl (yv ?_)))))));show yr (kf ?_);show wpAny _ _ (if ((1:Int)==0)=true then _ else _) _ _ s;rw[yB (by decide)];show yr (qay pl (yr (qay e (yr (yv ?_)))));show wpAny _ _ (match Builtin.Slice.sliceAdjust lo hi 1 (n:Int) with | (lo,hi)=>pure (lo,(1:Int),Builtin.Slice.slicePlaces lo hi 1)) _ _ s;rw[adjust_gen lo hi n];show wpAny _ _ (pure (((sIx n 0 lo:Nat):Int),(1:Int),Builtin.Slice.slicePlaces ((sIx n 0 lo:Nat):Int) ((sIx n n hi:Nat):Int) 1)) _ _ s;rw[places_gen];show yv h
theorem pick_gen(xs:Array Value)(i k:Nat):((List.range k).filterMap fun(m:Nat)=>xs[((i:Int)+(m:Int)*1).toNat]?).toArray=((xs.toList.drop i).take k).toArray:=by
 have e:(fun(m:Nat)=>xs[((i:Int)+(m:Int)*1).toNat]?)=fun m=>xs[i+m]?:=by
  funext m;have:((i:Int)+(m:Int)*1).toNat=i+m:=by lk
  rw[this]
 rw[e];have:=pick_run xs i k;rw[List.filterMap_map] at this;have a:((fun x=>xs[x]?) ∘ fun x=>i+x)=fun m=>xs[i+m]?:=rfl;rw[a] at this;rw[this]
theorem getItem_tuple_cut{a:Array Value}{Q:Value->Shared->Prop}(c:IsTup s.heap t a)(i:s.heap.IsSliceOf sl vl vu .none)(pl:IsPart vl lo)(n:IsPart vu hi)
  (hw:¬ (sIx a.size 0 lo=0/\sIx a.size a.size hi=a.size))
  (h:Q (.ref s.heap.objs.size) { s with heap:=s.heap.push { cls:=.type "tuple",data:=.seq ((a.toList.drop (sIx a.size 0 lo)).take (sIx a.size a.size hi-sIx a.size 0 lo)).toArray } })
  (hsz:a.size<=sizeLine):wpAny (model prog w) A (getItem (.ref t) (.ref sl)) Q E s:=by
 have b:sizeOk (.seq ((a.toList.drop (sIx a.size 0 lo)).take (sIx a.size a.size hi-sIx a.size 0 lo)).toArray):=by
  show((a.toList.drop (sIx a.size 0 lo)).take (sIx a.size a.size hi-sIx a.size 0 lo)).toArray.size<=sizeLine;rw[yw,yL,xJ,Yx];lk
 have o:sIx a.size a.size hi<=a.size:=sIx_le _ _ (yh _) hi;obtain⟨l,g,e,j⟩:=id i;have d:s.TypeIs (.ref sl) "slice":=⟨l,g,e⟩;unfold getItem
 try with_reducible show Yl ?_
 first | show yr (yv ?_) | skip
 show yr (wpAny_sequenceKey c.typeIs (by decide) ?_);show yr (wpAny_callSpecial?_slot (name:=Str.ofString "__getitem__") c.typeIs YA
  (kB YA c.typeIs entry_tuple_getitem ?_ (args_tuple_getitem _ _)))
 show wpAny _ _ (Builtin.Tuple.tupleItemsOf (.ref t)>>=_) _ _ s;show yr (tupleItemsOf_ c ?_);show yr (wpAny_typeOf d ?_);rw[yG (by decide)];show yr (sliceApplied_gen i pl n ?_)
 have f:¬ ((((sIx a.size 0 lo:Nat):Int)==0&&(1:Int)==1&&(sIx a.size a.size hi-sIx a.size 0 lo)==a.size)=true):=by
  intro q;rw[yX,yX] at q;have p:((sIx a.size 0 lo:Nat):Int)=0:=eq_of_beq q.1.1;have r:sIx a.size a.size hi-sIx a.size 0 lo=a.size:=eq_of_beq q.2;show hw ⟨by lk,by lk⟩
 show wpAny _ _ (if (((sIx a.size 0 lo:Nat):Int)==0&&(1:Int)==1&&(sIx a.size a.size hi-sIx a.size 0 lo)==a.size)=true then _ else _) _ _ s;rw[yB f,pick_gen]
 first
  | show yr (m:=Builtin.Tuple.tupleExact _) (YI (yv ⟨_,rfl,yv h⟩) b)
  | show yr (m:=Builtin.Tuple.tupleExact _) (YI (yr (yv (yv ⟨_,rfl,yv h⟩))) b)
  | show yr (yr (m:=Builtin.Tuple.tupleExact _) (YI (yv (yv ⟨_,rfl,yv h⟩)) b))
  | show yr (yr (m:=Builtin.Tuple.tupleExact _) (YI (yv ⟨_,rfl,yv h⟩) b))
end
end HT
namespace L2
open PySem PySem.Spec PyProof.Rows
variable{A:Around}{H H':Hp}{P:Program}{X:Cx}{a p:Addr}{h':Heap}{i:Int}{its its' us:List Value}{j n t':Nat}{kvs:List (List Key×V)}{o:Option V}{pins:List (Addr×Obj)}{r:R2}{s:Shared}{u v:Value}{w:World}{x y:V}{xs:List V}{α:Type}{σ:St}
abbrev TO:=St->Hp->(Option Int->Hp->Prop)->Prop
def PO(X:Cx)(e:Option Expr)(t:TO):Prop:=
 ∀(pins:List (Addr×Obj)) (s:Shared) (σ:St) (H:Hp) (Q:Option Int->Hp->Prop),Inv X pins σ H s->t σ H Q ->
  wpAny (model X.prog X.w) X.A (evalPart e X.env) (fun u s'=>∃ o H',Inv X pins σ H' s'/\IsPart u o/\Q o H') X.xe s
def qdD:TO:=fun _ H Q=>Q none H
def qfj(t:TE):TO:=fun σ H Q=>t σ H fun x a=>∃ i,x=.int i/\Q (some i) a
theorem intsAre_of{ns:LQ}:∀{us:List Value},Vals (ns.map V.int) us->IntsAre us ns:=by
 induction ns with
 | nil=>intro us r;rw[kH] at r;cases r;show .nil
 | cons n ns ih =>
  intro us r;rw[yJ] at r
  cases r with
  | cons r1 r2 =>
   obtain⟨t,e⟩:=r1;subst e;show .cons n t (ih r2)
section
variable{X:Cx}{e:Expr}{te:TE}{lo hi:Option Expr}{tl th:TO}{pos p2:Pos}
theorem qbq:PO X none qdD:=by
 intro pins s σ H Q I h;rw[XG];show yv ⟨none,H,I,.none,h⟩
theorem jR(h:PE X e te):PO X (some e) (qfj te):=by
 intro pins s σ H Q I hw;rw[evalPart_some];show thn (h pins s σ H _ I hw) fun u f ⟨x,a,b,d,c⟩=>?_;obtain⟨i,rfl,q⟩:=c;obtain⟨t,rfl⟩:=d;show⟨some i,a,b,.int i t,q⟩
def SlR(X:Cx)(r:V->Option Int->Option Int->Hp->VK->Prop):Prop:=
 ∀(pins:List (Addr×Obj)) (s:Shared) (σ:St) (H:Hp) (x:V) (v b c:Value) (lo hi:Option Int) (a:Addr) (Q:VK),Inv X pins σ H s->RelV x v->s.heap.IsSliceOf a b c .none->IsPart b lo->IsPart c hi->r x lo hi H Q ->
  ∃ T id,typeLookup (.type T) "__getitem__"=pure (some (.builtin id))/\s.TypeIs v T/\wpAny (model X.prog X.w) X.A (getItem v (.ref a)) (EP X pins σ Q) X.xe s
def tSl(r:V->Option Int->Option Int->Hp->VK->Prop)(te:TE)(tl th:TO):TE:=fun σ H Q=>te σ H fun x a=>tl σ a fun l b=>th σ b fun u c=>r x l u c Q
theorem qaG{r:V->Option Int->Option Int->Hp->VK->Prop}(z:SlR X r)(t:PE X e te)(hl:PO X lo tl)(C:PO X hi th):PE X (.Subscript e (.Slice lo hi none p2) pos) (tSl r te tl th):=by
 intro pins s σ H Q I h;show Subscript_ (thn (t pins s σ H _ I h) fun v K ⟨x,g,j,J,E⟩=>?_);show kR (thn (hl pins K σ g _ j E) fun c L ⟨l,i,m,pl,F⟩=>thn (C pins L σ i _ m F) fun d a ⟨u,f,n,D,G⟩=>?_);rw[XG];show yv ?_;have o:Inv X pins σ f { a with heap:=a.heap.push { cls:=.type "slice",data:=.fields #[c,d,.none] } }:=n.kept (t':=a.toks) fun b M q=>yt _ q;obtain⟨T,id,p,B,y⟩:=z pins { a with heap:=a.heap.push { cls:=.type "slice",data:=.fields #[c,d,.none] } } σ f x v c d l u a.heap.objs.size Q o J (Xm ..) pl D G;show wpAny (model X.prog X.w) X.A (subscriptTail e (.Slice lo hi none p2) v (.ref a.heap.objs.size)) (EP X pins σ Q) X.xe { a with heap:=a.heap.push { cls:=.type "slice",data:=.fields #[c,d,.none] } };show tail_any (ops:=[.ref a.heap.objs.size,v]) B p y (by with_unfolding_all rfl)
noncomputable def qeo(xs:List V)(lo hi:Option Int):List V:=(xs.drop (HT.sIx xs.length 0 lo)).take (HT.sIx xs.length xs.length hi-HT.sIx xs.length 0 lo)
theorem qaS(xs:List V)(lo hi:Option Int):(qeo xs lo hi).length<=xs.length:=by
 unfold qeo;rw[yL,xJ];lk
inductive rSlT(K:yg)(x:V)(lo:Option Int)(hi:Option Int)(H:Hp)(Q:VK):Prop|mk (a xs:_) (_:x=.ref a) (_:SqT K H a xs) (_:¬ (HT.sIx xs.length 0 lo=0/\HT.sIx xs.length xs.length hi=xs.length)) (_:∀ p,H p=none->Q (.ref p) (upd H p (.tup (qeo xs lo hi))))
theorem sl_tup:SlR X (rSlT X.K):=by
 intro pins s σ H x v n p lo hi m Q I j f pl i h;obtain⟨a,xs,rfl,g,hw,q⟩:=h;cases j;obtain⟨its,r,d,e⟩:=I.tuple g;have c:its.toArray.size=xs.length:=by rw[yw];show r.length.symm
 show⟨"tuple",_,YA.lookup,d.typeIs,?_⟩;show HT.getItem_tuple_cut d f pl i (by rw[c];show hw) ?_ (by rw[c];show e);rw[c];show⟨.ref s.heap.objs.size,_,I.laid (t':=s.toks) (o:=.tup (qeo xs lo hi)) (fun b l q=>yt _ q) (yh _) ?_,rfl,q _ (I.hok.fresh (yh _))⟩;show⟨yi (qaS xs lo hi) e,_,(r.drop (HT.sIx xs.length 0 lo)).take (HT.sIx xs.length xs.length hi-HT.sIx xs.length 0 lo),IsTup.new _ _⟩
inductive rLtT(K:yg)(x:V)(y:V)(H:Hp)(Q:VK):Prop|mk (a b ns ms:_) (_:x=.ref a) (_:y=.ref b) (_:SqT K H a (ns.map V.int)) (_:SqT K H b (ms.map V.int)) (_:Q (.bl (HT.lexLt ns ms)) H)
inductive rCatT(K:yg)(x:V)(y:V)(H:Hp)(Q:VK):Prop|mk (a b xs ys:_) (_:x=.ref a) (_:y=.ref b) (_:SqT K H a xs) (_:SqT K H b ys) (_:xs≠[]) (_:xs.length+ys.length<=sizeLine) (_:(ys=[]->Q (.ref a) H)) (_:(ys≠[]->∀ p,H p=none->Q (.ref p) (upd H p (.tup (xs++ys)))))
theorem Vals.nil_iff(r:Vals xs us):us=[]↔xs=[]:=by
 cases r with
 | nil=>simp
 | cons _ _=>simp
theorem op_catT:OpR X (binaryOp .Add) (rCatT X.K):=by
 intro pins s σ H x y v u Q I n p h;obtain⟨a,b,xs,r,rfl,rfl,g,hb,i,e,l,m⟩:=h;cases n;cases p;obtain⟨its,d,j,_⟩:=I.tuple g;obtain⟨f,c,p2,_⟩:=I.tuple hb;show HT.cat_tup j p2 (fun z=>i (d.nil_iff.mp z)) (fun z=>⟨.ref a,H,I,rfl,l (c.nil_iff.mp z)⟩) (fun z=>?_) (by rw[<- d.length,<- c.length];show e);show⟨.ref s.heap.objs.size,_,I.laid (t':=s.toks) (o:=.tup (xs++r)) (fun b t q=>yt _ q) (yh _) ?_,rfl,m (fun w=>z (c.nil_iff.mpr w)) _ (I.hok.fresh (yh _))⟩;show⟨by rw[yz];show e,_,d.append c,IsTup.new _ _⟩
end
noncomputable def ixN(n:Nat)(i:Int):Option Nat:=if 0<=i then(if i<n then some i.toNat else none) else if -(n:Int)<=i then some (i+n).toNat else none
noncomputable def atI{α:Type}(xs:List α)(i:Int):Option α:=(ixN xs.length i).bind fun j=>xs[j]?
theorem qdE(h:ixN n i=some j):seqIndex? i n=some j/\j<n/\-(n:Int)<=i/\i<n:=by
 unfold ixN at h;by_cases a:0<=i
 .rw [yG a] at h;by_cases h1:i<n
  .rw [yG h1] at h;have e:i.toNat=j:=ym h;show⟨by rw[seqIndex_of a h1,e],by lk,by lk,h1⟩
  .rw [yB h1] at h;cases h
 .rw [yB a] at h;by_cases h1:-(n:Int)<=i
  .rw [yG h1] at h;have e:(i+n).toNat=j:=ym h;show⟨by rw[seqIndex_neg (by lk) h1,e],by lk,h1,by lk⟩
  .rw [yB h1] at h;cases h
theorem qcq{xs:List α}{v:α}(h:atI xs i=some v):∃ j,seqIndex? i xs.length=some j/\xs[j]?=some v/\j<xs.length/\-(xs.length:Int)<=i/\i<xs.length:=by
 unfold atI at h
 cases e:ixN xs.length i with
 | none=>rw[e] at h;cases h
 | some j =>
  rw[e] at h;obtain⟨h1,a,b,c⟩:=qdE e;show⟨j,h1,h,a,b,c⟩
theorem qw{xs:List α}{v:α}(h:xs[j]?=some v):atI xs (j:Int)=some v:=by
 have a:j<xs.length:=(yc.mp h).1
 have e:ixN xs.length (j:Int)=some j:=by
  unfold ixN;rw[yG (by lk),yG (by lk)];simp
 unfold atI;rw[e];show h
def PlainIx(b:Expr):Prop:=∀ o i,subscripted b false o i=operate [o,i] (getItem o i)
def IxR(X:Cx)(r:R2):Prop:=
 ∀(b a:Expr) (pins:List (Addr×Obj)) (s:Shared) (σ:St) (H:Hp) (x y:V) (v u:Value) (Q:VK),Inv X pins σ H s->RelV x v->RelV y u->r x y H Q ->
  subscripted a false v u=operate [v,u] (getItem v u)->wpAny (model X.prog X.w) X.A (subscriptTail b a v u) (EP X pins σ Q) X.xe s
def MtR(X:Cx)(id:String)(r:V->List V->Hp->VK->Prop):Prop:=
 ∀(pins:List (Addr×Obj)) (s:Shared) (σ:St) (H:Hp) (x:V) (xs:List V) (v:Value) (us:List Value) (Q:VK),Inv X pins σ H s->RelV x v->Vals xs us->r x xs H Q ->
  wpAny (model X.prog X.w) X.A (call (.builtin id) (v::us)) (EP X pins σ Q) X.xe s
section
variable{X:Cx}{a b:Expr}{ta tb:TE}{pos:Pos}
theorem IxR.or{d:R2}(h:IxR X r)(h':IxR X d):IxR X (fun x y H Q=>r x y H Q\/d x y H Q):=by
 intro b a pins s σ H x y v u Q I e f q c;rcases q with q | q
 .show h b a pins s σ H x y v u Q I e f q c
 .show h' b a pins s σ H x y v u Q I e f q c
theorem qq(f:IxR X r)(e:PE X a ta)(hb:PE X b tb)(g:PlainIx b):PE X (.Subscript a b pos) (tOp r ta tb):=by
 intro pins s σ H Q I h;show Subscript_ (qfE e hb I h fun v u l x y c d i j q=>f a b pins l σ c x y v u Q d i j q (g _ _))
inductive rIxL(K:yg)(x:V)(y:V)(H:Hp)(Q:VK):Prop|mk (p xs i v:_) (_:x=.ref p) (_:y=.int i) (_:SqL K H p xs) (_:atI xs i=some v) (_:Q v H)
inductive rIxT(K:yg)(x:V)(y:V)(H:Hp)(Q:VK):Prop|mk (p xs i v:_) (_:x=.ref p) (_:y=.int i) (_:SqT K H p xs) (_:atI xs i=some v) (_:Q v H)
inductive rIxS(x:V)(y:V)(H:Hp)(Q:VK):Prop|mk (z i c:_) (_:x=.str z) (_:y=.int i) (_:z.length<=sizeLine) (_:atI z.cps.toList i=some c) (_:Q (.str ⟨#[c]⟩) H)
theorem ix_list:IxR X (rIxL X.K):=by
 intro e d pins s σ H x y v u Q I C D h l;obtain⟨p,xs,i,z,rfl,rfl,B,A,q⟩:=h;cases C;obtain⟨t,rfl⟩:=D;obtain⟨its,r,pl,G⟩:=I.list B;obtain⟨j,h1,m,E,n,o⟩:=qcq A;obtain⟨w,f,c⟩:=r.get m;have hl:=r.length;have F:=qbb;have a:EP X pins σ Q w s:=⟨z,H,I,c,q⟩;by_cases g:0<=i
 .have b:i.toNat=j:=by
   rw[seqIndex_of g o] at h1;show ym h1
  show item_listR pl.isList g (by lk) (by rw[b];simpa using f) a l
 .have b:(i+(its.toArray.size:Int)).toNat=j:=by
   rw[seqIndex_neg (by lk) n] at h1;rw[yw,<- hl];show ym h1
  show subscriptTail_builtinR (x:=w) pl.isList.typeIs Xv.lookup
   (wpAny_getItem_list_neg (Q:=fun r s'=>r=w/\EP X pins σ Q r s') pl.isList (by lk) (by rw[yw]<;>lk) (by lk) (by rw[b];simpa using f) ⟨rfl,a⟩) l
theorem ix_tup:IxR X (rIxT X.K):=by
 intro d c pins s σ H x y v u Q I n o h m;obtain⟨p,xs,i,z,rfl,rfl,l,g,q⟩:=h;cases n;obtain⟨t,rfl⟩:=o;obtain⟨its,r,pl,E⟩:=I.tuple l;obtain⟨j,h1,f,A,B,C⟩:=qcq g;obtain⟨w,e,b⟩:=r.get f;have hl:=r.length;have D:=qbb;have a:EP X pins σ Q w s:=⟨z,H,I,b,q⟩;show subscriptTail_builtinR (x:=w) pl.typeIs slot_tuple_getitem.lookup
  (getItem_tuple (j:=j) (Q:=fun r s'=>r=w/\EP X pins σ Q r s') pl (by lk) (by lk) (by rw[yw,<- hl];show h1) (by simpa using e) ⟨rfl,a⟩) m
theorem ix_str:IxR X rIxS:=by
 intro b a pins s σ H x y v u Q I o p h n;obtain⟨z,i,c,rfl,rfl,A,m,q⟩:=h;obtain⟨t,rfl⟩:=o;obtain⟨t',rfl⟩:=p;obtain⟨j,h1,f,r,g,l⟩:=qcq m;have hl:z.cps.toList.length=z.length:=by simp[Str.length]
 rw[hl] at h1 g l;have w:=qbb
 show tail_any (typeIs_str s z t) slot_str_getitem.lookup (getItem_str (c:=c) (by
  have d:decide (i < -(2 ^ 63:Int))=false:=yl (by lk);have e:decide (i ≥ 2 ^ 63)=false:=yl (by lk);rw[d,e,kT]) (by rw[h1];simpa using f) ⟨.str ⟨#[c]⟩,H,I.tok _,⟨_,rfl⟩,q⟩) n
def rIx(K:yg):R2:=fun x y H Q=>rIxL K x y H Q\/rIxT K x y H Q\/rIxS x y H Q
theorem ix_seq:IxR X (rIx X.K):=ix_list.or (ix_tup.or ix_str)
theorem mapSeq_set(its:List Value)(n j:Nat)(u:Value):Obj.mapSeq (·.setIfInBounds j u) { cls:=.type "list",data:=.seq its.toArray n }={ cls:=.type "list",data:=.seq (its.set j u).toArray n }:=by
 simp[Obj.mapSeq]
theorem Inv.lst(I:Inv X pins σ H s)(h:H p=some (.lst xs)) :
  ∃(its:List Value) (n:Nat),Vals xs its/\s.heap.get? p=some { cls:=.type "list",data:=.seq its.toArray n }/\xs.length<=sizeLine:=by
 obtain⟨z,its,n,r,e⟩:=I.hok p _ h;show⟨its,n,r,e,z⟩
theorem Inv.lstUpd{c:List V}{a:Nat}{f:Obj->Obj}(I:Inv X pins σ H s)(h:H p=some (.lst xs))
  (g:s.heap.get? p=some { cls:=.type "list",data:=.seq its.toArray n }) (d:f { cls:=.type "list",data:=.seq its.toArray n }={ cls:=.type "list",data:=.seq its'.toArray a }) (r:Vals c its') (i:c.length<=sizeLine) (t:Nat) :
  Inv X pins σ (upd H p (.lst c)) { s with heap:=s.heap.update p f,toks:=t }:=by
 have e:(s.heap.update p f).get? p=some { cls:=.type "list",data:=.seq its'.toArray a }:=by
  rw[Y3 f g (by rw[d]<;>rfl),d]
 show I.write (x:=p) (e:=p) (by rw[h];trivial) (.inl rfl) (fun b u hb q=>(Yz _ _ (Yq hb)).trans q) ⟨_,e⟩ ?_;show⟨i,its',a,r,e⟩
inductive rSetL(o:V)(i:V)(v:V)(H:Hp)(Q:(Hp->Prop)):Prop|mk (p xs k j:_) (_:o=.ref p) (_:i=.int k) (_:H p=some (.lst xs)) (_:ixN xs.length k=some j) (_:Q (upd H p (.lst (xs.set j v))))
theorem set_list:qfC X rSetL:=by
 intro pins s σ H o i v C B u Q I x w y h;obtain⟨p,xs,k,j,rfl,rfl,g,l,q⟩:=h;cases x;obtain⟨t,rfl⟩:=w;obtain⟨its,n,r,b,m⟩:=I.lst g;obtain⟨h1,z,e,f⟩:=qdE l;have hl:=r.length;have A:=qbb
 have c:Inv X pins σ (upd H p (.lst (xs.set j v))) { s with heap:=s.heap.update p (Obj.mapSeq (·.setIfInBounds j u)) }:=
  I.lstUpd g b (mapSeq_set its n j u) (r.set y j) (by rw[List.length_set];show m) s.toks
 by_cases d:0<=k
 .have a:k.toNat=j:=by
   rw[seqIndex_of d f] at h1;show ym h1
  show PySem.W.ki_setAt b d (by lk) (by rw[yw,<- hl];show f) (by rw[a];show⟨_,c,q⟩)
 .have a:(k+(its.toArray.size:Int)).toNat=j:=by
   rw[seqIndex_neg (by lk) e] at h1;rw[yw,<- hl];show ym h1
  show PySem.W.ki_setBack b (by lk) (by rw[yw,<- hl];show e) (by lk) (by rw[a];show⟨_,c,q⟩)
theorem slice_bounds(lo a:Option Int)(n:Nat):(sliceBounds lo a none n).1=((HT.sIx n 0 lo:Nat):Int)/\(sliceBounds lo a none n).2.1=((HT.sIx n n a:Nat):Int)/\(sliceBounds lo a none n).2.2=1:=by
 show⟨?_,?_,rfl⟩
 .cases lo with
  | none=>simp[sliceBounds,HT.sIx]
  | some i =>
   simp only[sliceBounds,HT.sIx,Option.getD_none,show(1:Int)>0 by decide,Xi];by_cases h:i<0
   .simp only[h,Xi]<;>lk
   .simp only[h,ke]<;>lk
 .cases a with
  | none=>simp[sliceBounds,HT.sIx]
  | some i =>
   simp only[sliceBounds,HT.sIx,Option.getD_none,show(1:Int)>0 by decide,Xi];by_cases h:i<0
   .simp only[h,Xi]<;>lk
   .simp only[h,ke]<;>lk
theorem slicePick_cut(its:List Value)(lo a:Option Int):slicePick its.toArray lo a none=((its.drop (HT.sIx its.length 0 lo)).take (HT.sIx its.length its.length a-HT.sIx its.length 0 lo)).toArray:=by
 obtain⟨h1,b,c⟩:=slice_bounds lo a its.toArray.size;unfold slicePick;rw[h1,b,c];simp only[sliceRange_one,pick_run,yw]<;>rfl
inductive rSlL(K:yg)(x:V)(lo:Option Int)(hi:Option Int)(H:Hp)(Q:VK):Prop|mk (a xs:_) (_:x=.ref a) (_:SqL K H a xs) (_:∀ p,H p=none->Q (.ref p) (upd H p (.lst (qeo xs lo hi))))
theorem sl_list:SlR X (rSlL X.K):=by
 intro pins s σ H x v p t lo d n Q I l f pl j h;obtain⟨a,xs,rfl,g,q⟩:=h;cases l;obtain⟨its,r,e,i⟩:=I.list g;have c:=r.length;show⟨"list",_,Xv.lookup,e.isList.typeIs,?_⟩;show Xh e.isList f pl j .none (by simp) ?_ (by rw[yw]<;>lk);rw[slicePick_cut,<- c];show⟨.ref s.heap.objs.size,_,I.laid (t':=s.toks) (o:=.lst (qeo xs lo d)) (fun b m q=>yt _ q) (yh _) ?_,rfl,q _ (I.hok.fresh (yh _))⟩;show⟨yi (qaS xs lo d) i,_,0,(r.drop (HT.sIx xs.length 0 lo)).take (HT.sIx xs.length xs.length d-HT.sIx xs.length 0 lo),yK _ rfl⟩
noncomputable def zQ:V->Bool
 | .non=>true
 | .bl _=>true
 | .int _=>true
 | .str _=>true
 | _=>false
noncomputable def eqV:V->V->Bool
 | .non,.non=>true
 | .bl a,.bl b=>a==b
 | .bl a,.int b=>(if a then 1 else 0)==b
 | .int a,.bl b=>a==(if b then 1 else 0)
 | .int a,.int b=>a==b
 | .str a,.str b=>a==b
 | _,_=>false
theorem qdF(e:RelV y u)(c:RelV x v)(f:zQ y=true)(d:zQ x=true):SeqAt.EqAt A s u v (eqV y x):=by
 cases y with
 | non =>
  cases e
  cases x with
  | non=>cases c;show XV _
  | bl b=>cases c;show SeqAt.EqAt.none_bool b
  | int b=>obtain⟨t,rfl⟩:=c;show SeqAt.EqAt.none_int b t
  | str b=>obtain⟨t,rfl⟩:=c;show SeqAt.EqAt.none_str b t
  | _=>show absurd (show false=true from d) Yh
 | bl a =>
  cases e
  cases x with
  | non=>cases c;show SeqAt.EqAt.bool_none a
  | bl b=>cases c;show SeqAt.EqAt.bool_bool a b
  | int b=>obtain⟨t,rfl⟩:=c;show SeqAt.EqAt.bool_int a b t
  | str b=>obtain⟨t,rfl⟩:=c;show SeqAt.EqAt.bool_str a b t
  | _=>show absurd (show false=true from d) Yh
 | int a =>
  obtain⟨t',rfl⟩:=e
  cases x with
  | non=>cases c;show SeqAt.EqAt.int_none a t'
  | bl b=>cases c;show SeqAt.EqAt.int_bool a t' b
  | int b=>obtain⟨t,rfl⟩:=c;show SeqAt.EqAt.int_int a t' b t
  | str b=>obtain⟨t,rfl⟩:=c;show SeqAt.EqAt.int_str a t' b t
  | _=>show absurd (show false=true from d) Yh
 | str a =>
  obtain⟨t',rfl⟩:=e
  cases x with
  | non=>cases c;show SeqAt.EqAt.str_none a t'
  | bl b=>cases c;show SeqAt.EqAt.str_bool a t' b
  | int b=>obtain⟨t,rfl⟩:=c;show SeqAt.EqAt.str_int a t' b t
  | str b=>obtain⟨t,rfl⟩:=c;show SeqAt.EqAt.str_str a t' b t
  | _=>show absurd (show false=true from d) Yh
 | _=>show absurd (show false=true from f) Yh
noncomputable def eqU(x:V)(u:Value):Bool:=match u with
 | .none=>eqV .non x
 | .bool b=>eqV (.bl b) x
 | .int i _=>eqV (.int i) x
 | .str z _=>eqV (.str z) x
 | _=>false
theorem qdG(r:RelV y u)(f:zQ y=true):eqU x u=eqV y x:=by
 cases y with
 | non=>cases r;rfl
 | bl b=>cases r;rfl
 | int i=>obtain⟨t,rfl⟩:=r;rfl
 | str z=>obtain⟨t,rfl⟩:=r;rfl
 | _=>show absurd (show false=true from f) Yh
theorem qaT:∀{xs:List V} {us:List Value},Vals xs us->xs.all zQ=true->us.any (eqU x)=xs.any fun y=>eqV y x
 | _,_,.nil,_=>rfl
 | y::xs,u::us,.cons r t,f=>by
  rw[ku,yX] at f;rw[XH,XH,qdG r f.1,qaT t f.2]
theorem zK(b:RelV x v)(a:zQ x=true):∀{xs:List V} {us:List Value},Vals xs us->xs.all zQ=true->∀ u∈us,SeqAt.EqAt A s u v (eqU x u)
 | _,_,.nil,_=>fun u hu=>by cases hu
 | y::xs,u::us,.cons r t,f=>fun c hu=>by
  rw[ku,yX] at f;rcases yA.mp hu with rfl | hu
  .rw [qdG r f.1];show qdF r b f.1 a
  .show zK b a t f.2 c hu
noncomputable def inV(x:V)(xs:List V):Bool:=xs.any fun y=>eqV y x
inductive rIn(K:yg)(neg:Bool)(x:V)(y:V)(H:Hp)(Q:VK):Prop|mk (p xs:_) (_:y=.ref p) (_:(SqL K H p xs\/SqT K H p xs)) (_:zQ x=true) (_:xs.all zQ=true) (_:Q (.bl (if neg then !inV x xs else inV x xs)) H)
theorem op_in_seq:OpR X (compareOp .In) (rIn X.K false):=by
 intro pins s σ H x y v u Q I b d h;obtain⟨p,xs,rfl,hq,a,fs,q⟩:=h;cases d;rcases hq with hq | hq
 .obtain⟨its,r,pl,c⟩:=I.list hq;show SeqAt.in_listAt (eqU x) pl.isList (fun w hw=>zK b a r fs w (by simpa using hw)) ⟨.bl _,H,I,rfl,?_⟩;rw[show its.toArray.any (eqU x)=its.any (eqU x) by simp,qaT r fs];show q
 .obtain⟨its,r,pl,c⟩:=I.tuple hq;show SeqAt.in_tupleAt (eqU x) pl (fun w hw=>zK b a r fs w (by simpa using hw)) ⟨.bl _,H,I,rfl,?_⟩;rw[show its.toArray.any (eqU x)=its.any (eqU x) by simp,qaT r fs];show q
theorem op_notIn_seq:OpR X (compareOp .NotIn) (rIn X.K true):=by
 intro pins s σ H x y v u Q I b d h;obtain⟨p,xs,rfl,hq,a,fs,q⟩:=h;cases d;rcases hq with hq | hq
 .obtain⟨its,r,pl,c⟩:=I.list hq;show SeqAt.notIn_listAt (eqU x) pl.isList (fun w hw=>zK b a r fs w (by simpa using hw)) ⟨.bl _,H,I,rfl,?_⟩;rw[show its.toArray.any (eqU x)=its.any (eqU x) by simp,qaT r fs];show q
 .obtain⟨its,r,pl,c⟩:=I.tuple hq;show SeqAt.notIn_tupleAt (eqU x) pl (fun w hw=>zK b a r fs w (by simpa using hw)) ⟨.bl _,H,I,rfl,?_⟩;rw[show its.toArray.any (eqU x)=its.any (eqU x) by simp,qaT r fs];show q
theorem call_len_seq:jX X (.builtin "len") (fun xs H Q=>∃ p b,xs=[.ref p]/\(SqL X.K H p b\/SqT X.K H p b)/\Q (.int b.length) H):=by
 intro pins s σ H xs us Q I r h;obtain⟨p,b,rfl,hq,q⟩:=h;obtain⟨u,rfl,e⟩:=qaa r;cases e;have f:=qbb;rcases hq with hq | hq
 .obtain⟨its,c,pl,d⟩:=I.list hq;have a:=c.length;show Calls.call_len_list pl.isList (by simp only[yw]<;>lk) ⟨.int b.length,H,I.tok _,⟨s.toks+1,by rw[yw,a]⟩,q⟩
 .obtain⟨its,c,pl,d⟩:=I.tuple hq;have a:=c.length;show len_tuple pl (by simp only[yw]<;>lk) ⟨.int b.length,H,I.tok _,⟨s.toks+1,by rw[yw,a]⟩,q⟩
theorem call_len_str:jX X (.builtin "len") (fun xs H Q=>∃ z,xs=[.str z]/\z.length<=sizeLine/\Q (.int z.length) H):=by
 intro pins s σ H xs us Q I r h;obtain⟨z,rfl,b,q⟩:=h;obtain⟨u,rfl,t,rfl⟩:=qaa r;have a:=qbb;show len_str (by lk) ⟨.int z.length,H,I.tok _,⟨_,rfl⟩,q⟩
theorem call_list_of:jX X (.type "list") (fun xs H Q=>∃ p d,xs=[.ref p]/\(SqL X.K H p d\/SqT X.K H p d)/\∀ l,H l=none->Q (.ref l) (upd H l (.lst d))):=by
 intro pins s σ H xs us Q I r h;obtain⟨p,d,rfl,hq,q⟩:=h;obtain⟨u,rfl,x⟩:=qaa r;cases x;have f:∀(its:List Value),Vals d its->d.length<=sizeLine->∀(h':Heap) (a:Nat),(∀ b v,s.heap.get? b=some v->h'.get? b=some v) ->
   h'.get? s.heap.objs.size=some { cls:=.type "list",dict:=none,data:=.seq its.toArray a,slots:=#[] }->EP X pins σ Q (.ref s.heap.objs.size) { s with heap:=h' }:=fun its c i h' a j e =>
  ⟨.ref s.heap.objs.size,_,I.laid (t':=s.toks) j (yh _) (show ObjOk X.prog X.w _ h' _ (.lst d) from⟨i,its,a,c,e⟩),rfl,q _ (I.hok.fresh (yh _))⟩
 rcases hq with hq | hq
 .obtain⟨its,c,pl,i⟩:=I.list hq;have g:=c.length;obtain⟨o,t,hc,n,m⟩:=pl.isList;show call_list_seq p (.inl rfl) t hc m (fun h' a j e=>f its c i h' a j e) (by simp only[yw]<;>lk)
 .obtain⟨its,c,pl,i⟩:=I.tuple hq;have g:=c.length;obtain⟨o,t,hc,n,m⟩:=pl;show call_list_seq p (.inr rfl) t hc m (fun h' a j e=>f its c i h' a j e) (by simp only[yw]<;>lk)
theorem call_tuple_of:jX X (.type "tuple") (fun xs H Q=>∃ p a,xs=[.ref p]/\((SqL X.K H p a/\∀ l,H l=none->Q (.ref l) (upd H l (.tup a)))\/(SqT X.K H p a/\Q (.ref p) H))):=by
 intro pins s σ H xs us Q I r h;obtain⟨p,a,rfl,h⟩:=h;obtain⟨u,rfl,n⟩:=qaa r;cases n;rcases h with⟨c,q⟩ | ⟨c,q⟩
 .obtain⟨its,d,pl,i⟩:=I.list c;have g:=d.length;show call_tuple_list pl.isList (fun h' m=>?_) (by simp only[yw]<;>lk);have f:Inv X pins σ H { s with heap:=h' }:=I.kept (t':=s.toks) m
  have j:Inv X pins σ (upd H h'.objs.size (.tup a)) { s with heap:=h'.push { cls:=.type "tuple",data:=.seq its.toArray } }:=
   f.laid (t':=s.toks) (fun b o e=>yt _ e) (yh _) (show ObjOk X.prog X.w _ _ _ (.tup a) from⟨i,its,d,IsTup.new _ _⟩)
  show⟨.ref h'.objs.size,_,j,rfl,q _ (f.hok.fresh (yh _))⟩
 .obtain⟨its,d,pl,i⟩:=I.tuple c;show call_tuple_same pl ⟨.ref p,H,I,rfl,q⟩
def tyV(K:yg)(T:String)(x:V)(H:Hp):Prop:=match x with
 | .str _=>T="str"
 | .int _=>T="int"
 | .ref p=>(T="list"/\∃ xs,SqL K H p xs)\/(T="tuple"/\∃ o,K.lookup p=some o/\o.cls=.type "tuple"/\o.dict=none) \/
   (T="dict"/\((∃ kvs,H p=some (.dK kvs))\/∃ kvs,H p=some (.dT kvs)))\/(T="set"/\∃ S n,H p=some (.set S n))
 | _=>False
theorem qep{T:String}(I:Inv X pins σ H s)(r:RelV x v)(ty:tyV X.K T x H) :
  s.TypeIs v T/\∀ a,v=.ref a->∃ h,s.heap.get? a=some h/\h.dict=none:=by
 cases x with
 | str z =>
  obtain⟨t,rfl⟩:=r;cases (show T="str" from ty);show⟨typeIs_str s z t,fun _ e=>nomatch e⟩
 | int i =>
  obtain⟨t,rfl⟩:=r;cases (show T="int" from ty);show⟨typeIs_int s i t,fun _ e=>nomatch e⟩
 | ref p =>
  cases r;rcases ty with⟨rfl,xs,j⟩ | ⟨rfl,o,b,hc,g⟩ | ⟨rfl,b⟩ | ⟨rfl,S,n,b⟩
  .obtain⟨its,_,pl,_⟩:=I.list j;show⟨pl.isList.typeIs,fun a e=>?_⟩;cases e;obtain⟨o,n,e,c,g,_⟩:=pl;show⟨o,e,g⟩
  .show⟨⟨o,I.kIn p o b,hc⟩,fun a e=>?_⟩;cases e;show⟨o,I.kIn _ o b,g⟩
  .have z:∃ o,s.heap.get? p=some o/\o.ExactDict:=by
    rcases b with⟨kvs,b⟩ | ⟨kvs,b⟩
    .obtain⟨_,_,_,_,o,_,_,e,d,_⟩:=I.hok p _ b;show⟨o,e,d⟩
    .obtain⟨_,_,_,_,o,_,_,e,d,_⟩:=I.hok p _ b;show⟨o,e,d⟩
   obtain⟨o,e,d⟩:=z;show⟨⟨o,e,d.1⟩,fun a f=>?_⟩;cases f;show⟨o,e,d.2.1⟩
  .obtain⟨o,_,_,_,e,d,_⟩:=I.hok p _ b;show⟨⟨o,e,d.1⟩,fun a f=>?_⟩;cases f;show⟨o,e,d.2.1⟩
 | _=>show False.elim ty
def qfG(K:yg)(T:String)(r:V->List V->Hp->VK->Prop)(b:TE):TE:=fun σ H Q=>b σ H fun x a=>tyV K T x a/\r x [] a Q
def tBM(K:yg)(T:String)(r:V->List V->Hp->VK->Prop)(c:TE)(t:TA):TE:=fun σ H Q=>c σ H fun x a=>tyV K T x a/\t σ a fun xs b=>r x xs b Q
variable{o e:Expr}{es:List Expr}{to:TE}{t:TA}{name:Str}{apos cpos:Pos}{T id:String}{r:V->List V->Hp->VK->Prop}
theorem pe_bm0(m:PlainAttrs T)(c:Slot T name id)(d:typeOf (.builtin id)=pure (.type "method_descriptor"))(j:MtR X id r)(l:PE X o to)
  (a:attributeBase o name X.env (eval o X.env)=eval o X.env:=by rfl) (b:(apos.endLine==cpos.line)=true:=by rfl):PE X (.Call (.Attribute o name apos) [] [] cpos) (qfG X.K T r to):=by
 intro pins s σ H Q I h;show wpAny_Call_method0_late a b (thn (l pins s σ H _ I h) fun v p ⟨x,g,e,f,ty,n⟩=>?_);obtain⟨h1,i⟩:=qep e f ty;show⟨T,id,m,c,d,h1,i,xN rfl (PySem.evalArgs_none (j pins p σ g x [] v [] Q e f .nil n))⟩
theorem pe_bm(A:PlainAttrs T)(f:Slot T name id)(g:typeOf (.builtin id)=pure (.type "method_descriptor"))(w:MtR X id r)(y:PE X o to)(u:PA X (e::es) t)
  (b:attributeBase o name X.env (eval o X.env)=eval o X.env:=by rfl)
  (d:((backTo cpos (starEach (e::es) X.env)).all (fun x=>!x.1)&&(backToKw cpos (keywordEach [] X.env)).all (fun x=>x.1.isSome)
   && decide ((e::es).length+([]:List Keyword).length+(if ([]:List Keyword).isEmpty then 0 else 1)<30))=true:=by rfl)
  (c:(apos.endLine==cpos.line)=true:=by rfl) (z:starEach (e::es) X.env=(false,eval e X.env)::starEach es X.env:=by rfl) (a:(backTo cpos (starEach es X.env)).any (·.1)=false:=by rfl) :
  PE X (.Call (.Attribute o name apos) (e::es) [] cpos) (tBM X.K T r to t):=by
 intro pins s σ H Q I h;show wpAny_Call_method_late b d c rfl (thn (y pins s σ H _ I h) fun v E ⟨x,m,i,l,ty,B⟩=>?_);obtain⟨h1,q⟩:=qep i l ty;show⟨T,id,A,f,g,h1,q,?_⟩;have j:=u cpos pins E σ m _ i B;rw[z] at j ⊢;show xN (by show(false||(backTo cpos (starEach es X.env)).any (·.1))=false;rw[a]<;>rfl) (XR ?_);show thn j fun us F ⟨vs,n,p,D,C⟩=>w pins F σ n x vs v us Q p l D C
end
def MtM(X:Cx)(id:String)(r:V->List V->Hp->VK->Prop):Prop:=
 ∀(pins:List (Addr×Obj)) (s:Shared) (σ:St) (H:Hp) (x:V) (xs:List V) (v:Value) (us:List Value) (Q:VK),Inv X pins σ H s->RelV x v->Vals xs us->r x xs H Q ->
  wpAny (model X.prog X.w) X.A (call (.builtin id) (v::us)) (EP X pins σ Q) X.xe s
theorem Vals.one:∀{x:V} {us:List Value},Vals [x] us->∃ u,us=[u]/\RelV x u
 | _,_,.cons r .nil=>⟨_,rfl,r⟩
theorem Vals.zero:∀{us:List Value},Vals [] us->us=[]
 | _,.nil=>rfl
theorem Vals.dropLast(h:Vals xs us):Vals xs.dropLast us.dropLast:=by
 induction h with
 | nil=>show .nil
 | cons r t ih =>
  cases t with
  | nil=>show .nil
  | cons q t'=>show .cons r ih
theorem Vals.eraseIdx:∀{xs:List V} {us:List Value} (i:Nat),Vals xs us->Vals (xs.eraseIdx i) (us.eraseIdx i)
 | _,_,_,.nil=>.nil
 | _,_,0,.cons _ t=>t
 | _,_,i+1,.cons r t=>.cons r (Vals.eraseIdx i t)
theorem Vals.rep(h:Vals xs us):∀ k:Nat,Vals (List.replicate k xs).flatten (List.replicate k us).flatten
 | 0=>.nil
 | k+1=>by
  rw[xk,xk,Yu,Yu];show Vals.append h (Vals.rep h k)
theorem erase_last(l:List α):l.eraseIdx (l.length-1)=l.dropLast:=by
 induction l with
 | nil=>rfl
 | cons a r ih =>
  cases r with
  | nil=>rfl
  | cons b r =>
   have e:(a::b::r).length-1=((b::r).length-1)+1:=by
    have h1:(a::b::r).length=r.length+2:=rfl;have c:(b::r).length=r.length+1:=rfl;lk
   rw[e,List.eraseIdx_cons_succ,ih]
   all_goals rfl
theorem qbV:∀(l:List α) (i:Nat),(l.eraseIdx i).length<=l.length
 | [],_=>yh _
 | _::_,0=>xF _
 | _::r,i+1=>kC (qbV r i)
theorem qbW(its:List Value):∀(k:Nat) (acc:List Value),
  List.foldl (fun b c=>b++c) acc.toArray (List.replicate k its.toArray)=(acc++(List.replicate k its).flatten).toArray
 | 0,acc=>by simp
 | k+1,acc=>by
  have e:acc.toArray++its.toArray=(acc++its).toArray:=by simp
  have a:(acc++its)++(List.replicate k its).flatten=acc++(List.replicate (k+1) its).flatten:=by
   rw[xk,Yu,YE]
  rw[<- a,<- qbW its k (acc++its),<- e,xk,List.foldl_cons]
section
variable{X:Cx}{pins:List (Addr×Obj)}{σ:St}{H:Hp}{s:Shared}{l b:Addr}{xs ys zs:List V}
theorem Inv.lset{f:Array Value->Array Value}(I:Inv X pins σ H s)(a:H l=some (.lst xs))
  (e:s.heap.get? l=some { cls:=.type "list",data:=.seq its.toArray n }) (b:f its.toArray=its'.toArray) (hv:Vals ys its') (d:ys.length<=sizeLine) :
  Inv X pins σ (upd H l (.lst ys)) { s with heap:=s.heap.update l (Obj.mapSeq f),toks:=t' }:=by
 have q:=PySem.IsL.update e f;rw[b] at q;show I.write (x:=l) (e:=l) (by rw[a];show trivial) (.inl rfl) (fun g u hb c=>(Yz s.heap (Obj.mapSeq f) (Yq hb)).trans c) ⟨_,q⟩ ?_;show⟨d,its',_,hv,q⟩
theorem Inv.lnew(I:Inv X pins σ H s)(hv:Vals ys its)(a:ys.length<=sizeLine) :
  Inv X pins σ (upd H s.heap.objs.size (.lst ys)) { s with heap:=s.heap.push { cls:=.type "list",data:=.seq its.toArray },toks:=t' }:=
 I.laid (fun _ _ q=>yt _ q) (yh _) ⟨a,its,0,hv,yK _ rfl⟩
theorem Inv.fresh(I:Inv X pins σ H s):H s.heap.objs.size=none:=I.hok.fresh (yh _)
theorem Inv.lstM(I:Inv X pins σ H s)(a:H l=some (.lst xs)):xs.length<=sizeLine/\∃(its:List Value) (n:Nat),Vals xs its/\xs.length=its.length/\s.heap.get? l=some { cls:=.type "list",data:=.seq its.toArray n }:=by
 obtain⟨z,its,n,r,e⟩:=I.hok l _ a;show⟨z,its,n,r,r.length,e⟩
theorem notLongL(h:n<=sizeLine):Builtin.List.listTooLong n=false:=by
 unfold Builtin.List.listTooLong;show yl (by lk)
end
section
variable{X:Cx}
inductive rAppend(x:V)(vs:List V)(H:Hp)(Q:VK):Prop|mk (l xs y:_) (_:x=.ref l) (_:vs=[y]) (_:H l=some (.lst xs)) (_:xs.length<sizeLine) (_:Q .non (upd H l (.lst (xs++[y]))))
theorem mt_append:MtM X "list.append" rAppend:=by
 intro pins s σ H x vs v us Q I d c h;obtain⟨l,xs,y,rfl,rfl,a,f,q⟩:=h;cases d;obtain⟨u,rfl,b⟩:=c.one;obtain⟨z,its,n,r,hl,e⟩:=I.lstM a;show kg F.slot_list_append ⟨_,e,rfl⟩ F.entry_list_append (F.args_list_append_2 _ _) (PySem.list_append l its.toArray n u (by rw[yw];lk)) ⟨e,?_⟩;show⟨.non,_,I.lset (its':=its++[u]) a e (by simp) (r.append (.cons b .nil)) ?_,rfl,q⟩;rw[yz,List.length_singleton];lk
inductive rExtend(x:V)(vs:List V)(H:Hp)(Q:VK):Prop|mk (l b xs zs:_) (_:x=.ref l) (_:vs=[.ref b]) (_:H l=some (.lst xs)) (_:H b=some (.lst zs)) (_:xs.length+zs.length<=sizeLine) (_:Q .non (upd H l (.lst (xs++zs))))
inductive rPop(x:V)(vs:List V)(H:Hp)(Q:VK):Prop|mk (l xs y:_) (_:x=.ref l) (_:vs=[]) (_:H l=some (.lst xs)) (_:xs[xs.length-1]?=some y) (_:Q y (upd H l (.lst xs.dropLast)))
theorem mt_pop:MtM X "list.pop" rPop:=by
 intro pins s σ H x vs v us Q I j i h;obtain⟨l,xs,y,rfl,rfl,c,f,q⟩:=h;cases j;have a:=i.zero;subst a;obtain⟨z,its,n,r,hl,e⟩:=I.lstM c;obtain⟨u,d,g⟩:=r.get f
 have b:its.toArray[its.toArray.size-1]?=some u:=by
  show its.toArray[its.length-1]?=some u;rw[<- xV,<- hl];show d
 show kg F.slot_list_pop ⟨_,e,rfl⟩ F.entry_list_pop (F.args_list_pop_1 _) (MeetsSeq.list_pop_last l its.toArray n u b (by rw[yw];lk)) ⟨e,?_⟩;show⟨y,_,I.lset (its':=its.dropLast) c e ?_ r.dropLast ?_,g,q⟩
 .show its.toArray.eraseIdxIfInBounds (its.toArray.size-1)=its.dropLast.toArray;rw[yw,List.eraseIdxIfInBounds_toArray,erase_last]
 .rw [List.length_dropLast];lk
inductive rPopAt(x:V)(vs:List V)(H:Hp)(Q:VK):Prop|mk (l xs i k y:_) (_:x=.ref l) (_:vs=[.int i]) (_:H l=some (.lst xs)) (_:-(2 ^ 63)<=i) (_:i<2 ^ 63) (_:seqIndex? i xs.length=some k) (_:xs[k]?=some y) (_:Q y (upd H l (.lst (xs.eraseIdx k))))
theorem mt_popAt:MtM X "list.pop" rPopAt:=by
 intro pins s σ H x vs v us Q I m j h;obtain⟨l,xs,i,k,y,rfl,rfl,b,h1,c,d,f,q⟩:=h;cases m;obtain⟨u,rfl,g⟩:=j.one;obtain⟨t,rfl⟩:=g;obtain⟨z,its,n,r,hl,e⟩:=I.lstM b;obtain⟨w,hw,a⟩:=r.get f;show kg F.slot_list_pop ⟨_,e,rfl⟩ F.entry_list_pop (F.args_list_pop_2 _ _)
  (MeetsSeq.list_pop_at l its.toArray n i t k w (fitsIndex_both h1 c) (by rw[yw,<- hl];show d) (by rw[<- xV];show hw) (by rw[yw];lk)) ⟨e,?_⟩
 show⟨y,_,I.lset (its':=its.eraseIdx k) b e ?_ (r.eraseIdx k) ?_,a,q⟩
 .show its.toArray.eraseIdxIfInBounds k=(its.eraseIdx k).toArray;rw[List.eraseIdxIfInBounds_toArray]
 .have:=qbV xs k;lk
inductive rReverse(x:V)(vs:List V)(H:Hp)(Q:VK):Prop|mk (l xs:_) (_:x=.ref l) (_:vs=[]) (_:H l=some (.lst xs)) (_:Q .non (upd H l (.lst xs.reverse)))
inductive rClear(x:V)(vs:List V)(H:Hp)(Q:VK):Prop|mk (l xs:_) (_:x=.ref l) (_:vs=[]) (_:H l=some (.lst xs)) (_:Q .non (upd H l (.lst [])))
inductive rCat(x:V)(y:V)(H:Hp)(Q:VK):Prop|mk (l b xs zs:_) (_:x=.ref l) (_:y=.ref b) (_:H l=some (.lst xs)) (_:H b=some (.lst zs)) (_:xs.length+zs.length<=sizeLine) (_:∀ p,H p=none->Q (.ref p) (upd H p (.lst (xs++zs))))
theorem op_cat:OpR X (binaryOp .Add) rCat:=by
 intro pins s σ H x y v u Q I m o h;obtain⟨l,b,xs,A,rfl,rfl,g,f,p,q⟩:=h;cases m;cases o;obtain⟨z,its,n,r,hl,e⟩:=I.lstM g;obtain⟨w,a,t,j,i,c⟩:=I.lstM f;show PySem.P.add_list e c ?_ (by rw[yw,yw];lk);have d:its.toArray++a.toArray=(its++a).toArray:=by simp
 rw[d];show⟨.ref _,_,I.lnew (t':=s.toks) (r.append j) (by rw[yz];lk),rfl,q _ I.fresh⟩
inductive rRep(x:V)(y:V)(H:Hp)(Q:VK):Prop|mk (l k xs:_) (_:x=.ref l) (_:y=.int k) (_:H l=some (.lst xs)) (_:-(2 ^ 63)<=k) (_:k<2 ^ 63) (_:xs.length*k.toNat<=sizeLine) (_:∀ p,H p=none->Q (.ref p) (upd H p (.lst (List.replicate k.toNat xs).flatten)))
theorem len_rep(xs:List α)(k:Nat):(List.replicate k xs).flatten.length=k*xs.length:=by
 induction k with
 | zero=>simp
 | succ k ih=>rw[xk,Yu,yz,ih,Nat.succ_mul,Nat.add_comm]
theorem qeq:OpR X (binaryOp .Mult) rRep:=by
 intro pins s σ H x y v u Q I B C h;obtain⟨l,k,xs,rfl,rfl,A,h1,w,o,q⟩:=h;cases B;obtain⟨t,rfl⟩:=C;obtain⟨z,its,n,r,hl,e⟩:=I.lstM A;have f:its.toArray.size*k.toNat<=sizeLine:=by rw[yw,<- hl];show o
 have c:¬ its.toArray.size*k.toNat>(2 ^ 63-1) / 8:=by
  have:(sizeLine:Nat)<=(2 ^ 63-1) / 8:=by decide
  lk
 have d:¬ (!Builtin.List.listFitsIndex k)=true:=by
  rw[fitsIndex_both h1 w];show Yh
 have b:¬ Builtin.List.listTooLong (its.toArray.size*k.toNat)=true:=by
  rw[notLongL f];show Yh
 have g:List.foldl (fun i j=>i++j) #[] (List.replicate (if its.toArray.isEmpty=true then 0 else k.toNat) its.toArray)=(List.replicate k.toNat its).flatten.toArray:=by
  have p:∀ m:Nat,List.foldl (fun i j=>i++j) #[] (List.replicate m its.toArray)=(List.replicate m its).flatten.toArray:=fun m=>by
   have:=qbW its m [];rw[XW] at this;show this
  rw[p]
  cases its with
  | nil=>simp
  | cons a r'=>rw[yB (by simp)]
 show wpAny_binaryOp_repeat_ref (T:="list") (U:="int") (by decide) ⟨_,e,rfl⟩ (fun s'=>typeIs_int s' k t) noFill_list_mul F.fills_int_mul F.slot_int_rmul repeat_list F.slot_int_index.lookup
  (kg F.slot_int_rmul (typeIs_int s k t) F.entry_int_rmul (F.args_int_rmul_2 _ _) (int___rmul___int_list k t l its.toArray n)
   ⟨e,rfl,⟨_,e,rfl⟩,kg F.slot_list_mul ⟨_,e,rfl⟩ F.entry_list_mul (F.args_list_mul_2 _ _) (AutoListH.list___mul___list_int_3 l its.toArray n k t d c b) ⟨e,?_⟩⟩)
 rw[g];show⟨.ref _,_,I.lnew (t':=s.toks) (r.rep k.toNat) (by rw[len_rep,Nat.mul_comm];show o),rfl,q _ I.fresh⟩
end
section
variable{prog:Program}{w:World}{A:Around}{E:Value->Shared->Prop}{s:Shared}
set_option maxRecDepth 100000 in
end
section
variable{X:Cx}
end
section
variable{κ:Type}[DecidableEq κ]
noncomputable def zi(kvs:List (κ×V))(k:κ):Option V:=(kvs.find? fun a=>decide (a.1=k)).map (·.2)
noncomputable def qab(kvs:List (κ×V))(k:κ)(v:V):List (κ×V):=
 if (kvs.any fun a=>decide (a.1=k))=true then kvs.map (fun a=>if a.1=k then(a.1,v) else a) else kvs++[(k,v)]
noncomputable def dropK(kvs:List (κ×V))(k:κ):List (κ×V):=kvs.filter fun a=>decide (a.1≠k)
theorem qS{p:κ×V}{r:List (κ×V)}{k:κ}(e:p.1=k):zi (p::r) k=some p.2:=by simp[zi,xE,e]
theorem qJ{p:κ×V}{r:List (κ×V)}{k:κ}(e:¬ p.1=k):zi (p::r) k=zi r k:=by simp[zi,xE,e]
theorem zL(k:κ):∀ kvs:List (κ×V),(kvs.any fun a=>decide (a.1=k))=(zi kvs k).isSome
 | []=>rfl
 | p::r=>by
  rw[XH];by_cases e:p.1=k
  .simp only[qS e,yD e,Bool.true_or,Option.isSome_some]
  .rw [qJ e,yl e,Bool.false_or];show zL k r
theorem qcQ(k j:κ)(y:V):∀ kvs:List (κ×V),zi (kvs.map fun a=>if a.1=k then(a.1,y) else a) j=(zi kvs j).map fun x=>if j=k then y else x
 | []=>rfl
 | p::r=>by
  have b:=qcQ k j y r;rw[yJ];by_cases h:p.1=k
  .rw [yG h];by_cases e:p.1=j
   .rw [qS (p:=(p.1,y)) e,qS e,XY,yG (e.symm.trans h)]
   .rw [qJ (p:=(p.1,y)) e,qJ e,b]
  .rw [yB h];by_cases e:p.1=j
   .rw [qS (p:=p) e,qS e,XY,yB (fun z=>h (e.trans z))]
   .rw [qJ (p:=p) e,qJ e,b]
theorem qbX(k j:κ)(y:V):∀ kvs:List (κ×V),zi kvs k=none->zi (kvs++[(k,y)]) j=if j=k then some y else zi kvs j
 | [],_=>by
  by_cases e:k=j
  .rw [yG e.symm];show qS (p:=(k,y)) e
  .rw [yB (fun z=>e z.symm)];show qJ (p:=(k,y)) e
 | p::r,hn=>by
  rw[XE];have a:¬ p.1=k:=fun z=>by rw[qS z] at hn;cases hn
  rw[qJ a] at hn;have b:=qbX k j y r hn;by_cases e:p.1=j
  .rw [qS e,qS e,yB (fun z=>a (e.trans z))]
  .rw [qJ e,qJ e,b]
theorem valV_put(kvs:List (κ×V))(k j:κ)(y:V):zi (qab kvs k y) j=if j=k then some y else zi kvs j:=by
 unfold qab;by_cases a:(kvs.any fun c=>decide (c.1=k))=true
 .rw [yG a,qcQ];rw[zL] at a;by_cases e:j=k
  .obtain⟨x,b⟩:=Xg.mp a;rw[yG e,e,b,XY,yG rfl]
  .rw [yB e]
   cases zi kvs j with
   | none=>rfl
   | some x=>rw[XY,yB e]
 .rw [yB a];show qbX k j y kvs ?_;rw[zL] at a
  cases q:zi kvs k with
  | none=>rfl
  | some x=>rw[q] at a;show(a rfl).elim
theorem jS(kvs:List (κ×V))(k:κ)(v:V):(qab kvs k v).length<=kvs.length+1:=by
 unfold qab;split
 .rw [ya];lk
 .rw [yz,yC,Yn];lk
theorem qaH{kvs:List (κ×V)}{k:κ}(v:V)(h:zi kvs k=none):qab kvs k v=kvs++[(k,v)]:=by
 unfold qab;rw[zL,h];show yB (by decide)
theorem RelO.isSome_eq{u:Option Value}(r:RelO o u):o.isSome=u.isSome:=by
 cases o with
 | none=>cases u with
  | none=>rfl
  | some _=>show(show False from r).elim
 | some _=>cases u with
  | none=>show(show False from r).elim
  | some _=>rfl
theorem RelO.getD{u:Option Value}{d:V}{d':Value}(r:RelO o u)(a:RelV d d'):RelV (o.getD d) (u.getD d'):=by
 cases o with
 | none=>cases u with
  | none=>show a
  | some _=>show(show False from r).elim
 | some _=>cases u with
  | none=>show(show False from r).elim
  | some _=>show r
theorem KV.val{kvs:List (κ×V)}{vs:List (κ×Value)}(r:KV kvs vs)(k:κ):RelO (zi kvs k) (valueAt vs k):=by
 unfold KV at r
 induction r with
 | nil=>show YK
 | @cons p q ps qs h t ih =>
  obtain⟨h1,c⟩:=h;by_cases e:p.1=k
  .have a:q.1=k:=h1.symm.trans e;have b:valueAt (q::qs) k=some q.2:=by simp[valueAt,xE,a]
   rw[qS e,b];show c
  .have a:¬ q.1=k:=fun z=>e (h1.trans z);have b:valueAt (q::qs) k=valueAt qs k:=by simp[valueAt,xE,a]
   rw[qJ e,b];show ih
theorem KV.any{kvs:List (κ×V)}{vs:List (κ×Value)}(r:KV kvs vs)(k:κ):(kvs.any fun a=>decide (a.1=k))=vs.any fun a=>decide (a.1=k):=by
 unfold KV at r
 induction r with
 | nil=>rfl
 | cons h t ih=>rw[XH,XH,ih,h.1]
theorem KV.repl{kvs:List (κ×V)}{vs:List (κ×Value)}(r:KV kvs vs)(k:κ)(c:RelV y u) :
  KV (kvs.map fun a=>if a.1=k then(a.1,y) else a) (vs.map fun a=>if a.1=k then(a.1,u) else a):=by
 unfold KV at r ⊢
 induction r with
 | nil=>show .nil
 | @cons p q ps qs h t ih =>
  rw[yJ,yJ];show .cons ?_ ih;obtain⟨h1,b⟩:=h;by_cases e:p.1=k
  .rw [yG e,yG (h1.symm.trans e)];show⟨h1,c⟩
  .rw [yB e,yB (fun z=>e (h1.trans z))];show⟨h1,b⟩
theorem KV.put{kvs:List (κ×V)}{vs:List (κ×Value)}(r:KV kvs vs)(k:κ)(a:RelV y u):KV (qab kvs k y) (stored vs k u):=by
 unfold qab stored;rw[r.any k];by_cases e:(vs.any fun b=>decide (b.1=k))=true
 .rw [yG e,yG e];show r.repl k a
 .rw [yB e,yB e];show Paired.snoc r ⟨rfl,a⟩
theorem KV.length{kvs:List (κ×V)}{vs:List (κ×Value)}(r:KV kvs vs):kvs.length=vs.length:=Paired.length r
end
theorem qdp{k:Key}(r:RelV (kV k) u):(q8 P w).is k u=true:=by
 cases k with
 | inl i=>obtain⟨t,e⟩:=(show ∃ t,u=Value.int i t from r);subst e;show mixKind_int P w i t
 | inr x=>obtain⟨t,e⟩:=(show ∃ t,u=Value.str x t from r);subst e;show mixKind_str P w x t
theorem qbY:∀{ks:List Key} {us:List Value},Vals (ks.map kV) us->ItemsAre (q8 P w) ks us
 | [],_,r=>by rw[kH] at r;cases r;show .nil
 | k::ks,_,r=>by
  rw[yJ] at r
  cases r with
  | cons h t=>show .cons (qdp h) (qbY t)
abbrev KT(H:Hp):List (List Key×V)->List (List Key×Addr×Value)->Prop:=Paired fun p q=>p.1=q.1/\H q.2.1=some (.tup (p.1.map kV))/\RelV p.2 q.2.2
theorem KT.val{xs:List (List Key×Addr×Value)}(r:KT H kvs xs)(k:List Key):RelO (zi kvs k) ((atKey xs k).map (·.2)):=by
 induction r with
 | nil=>show YK
 | @cons p q ps qs h t ih =>
  obtain⟨h1,_,c⟩:=h;by_cases e:p.1=k
  .have a:q.1=k:=h1.symm.trans e;have b:atKey (q::qs) k=some q.2:=by simp[atKey,xE,a]
   rw[qS e,b];show c
  .have a:¬ q.1=k:=fun z=>e (h1.trans z);have b:atKey (q::qs) k=atKey qs k:=by simp[atKey,xE,a]
   rw[qJ e,b];show ih
theorem KT.repl{xs:List (List Key×Addr×Value)}(r:KT H kvs xs)(k:List Key)(d:RelV y u) :
  KT H (kvs.map fun a=>if a.1=k then(a.1,y) else a) (xs.map (putAt k u)):=by
 induction r with
 | nil=>show .nil
 | @cons p q ps qs h t ih =>
  rw[yJ,yJ];show .cons ?_ ih;obtain⟨h1,b,c⟩:=h;unfold putAt;by_cases e:p.1=k
  .rw [yG e,yG (h1.symm.trans e)];show⟨h1,b,d⟩
  .rw [yB e,yB (fun z=>e (h1.trans z))];show⟨h1,b,c⟩
theorem KT.put{xs:List (List Key×Addr×Value)}(r:KT H kvs xs)(k:List Key){b:Addr}(hb:H b=some (.tup (k.map kV)))(a:RelV y u) :
  KT H (qab kvs k y) (storedH xs k b u):=by
 have e:(kvs.any fun c=>decide (c.1=k))=(atKey xs k).isSome:=by
  rw[zL,(r.val k).isSome_eq,kn]
 unfold qab storedH;rw[e];by_cases q:(atKey xs k).isSome=true
 .rw [yG q,yG q];show r.repl k a
 .rw [yB q,yB q];show Paired.snoc r ⟨rfl,hb,a⟩
theorem KT.keeps{xs:List (List Key×Addr×Value)}(r:KT H kvs xs)(c:∀ b a,H b=some (.tup a)->H' b=some (.tup a)):KT H' kvs xs:=
 Paired.mapP r fun _ _ z=>⟨z.1,c _ _ z.2.1,z.2.2⟩
section
variable{P:Program}{w:World}{H:Hp}{h:Heap}{a:Addr}
theorem qfk{u:HO}(ok:HOk P w H h)(e:Rd H a u):ObjOk P w H h a u:=e.ok ok
theorem qbZ{kvs:List (Key×V)}(ok:HOk P w H h)(e:Rd H a (.dK kvs)):kvs.length<=sizeLine/\(a==sysModules)=false/\∃ vs,KV kvs vs/\h.DictOf (q8 P w) a vs:=
 show ObjOk P w H h a (.dK kvs) from qfk ok e
theorem qfl{kvs:List (Key×V)}(ok:HOk P w H h)(e:H a=some (.dK kvs)):kvs.length<=sizeLine/\(a==sysModules)=false/\∃ vs,KV kvs vs/\h.DictOf (q8 P w) a vs:=qbZ ok (.inl e)
theorem qbd{ks:List Key}(ok:HOk P w H h)(e:H a=some (.tup (ks.map kV))):(tupleKind (q8 P w)).is h ks a:=by
 obtain⟨_,its,r,o,h1,b,n,c⟩:=(show ObjOk P w H h a (.tup (ks.map kV)) from ok a _ e);show⟨o,its.toArray,n,h1,b,c,by simpa using qbY r⟩
theorem qcr(ok:HOk P w H h)(e:Rd H a (.dT kvs)):kvs.length<=sizeLine/\(a==sysModules)=false /\
  ∃ xs,KT H kvs xs/\h.DictOfH (tupleKind (q8 P w)) a xs:=by
 obtain⟨z,y,xs,r,o,es,ep,h1,b,c,d,f⟩:=(show ObjOk P w H h a (.dT kvs) from qfk ok e);show⟨z,y,xs,r,o,es,ep,h1,b,c,d,fun x hx=>?_,f⟩
 have all:∀{l:List (List Key×V)} {m:List (List Key×Addr×Value)},KT H l m->∀ x∈m,(tupleKind (q8 P w)).is h x.1 x.2.1:=by
  intro l m q
  induction q with
  | nil=>intro x hx;show nomatch hx
  | @cons p q ps qs hq t ih =>
   intro x hx;rcases yA.mp hx with e | hx
   .subst e;show qbd ok (by rw[<- hq.1];show hq.2.1)
   .show ih x hx
 show all r x hx
theorem dt_of(ok:HOk P w H h)(e:H a=some (.dT kvs)):kvs.length<=sizeLine/\(a==sysModules)=false /\
  ∃ xs,KT H kvs xs/\h.DictOfH (tupleKind (q8 P w)) a xs:=qcr ok (.inl e)
end
def DGet(H:Hp)(a:Addr)(y:V)(r:Option V):Prop:=
 (∃ kvs k,Rd H a (.dK kvs)/\y=kV k/\r=zi kvs k)\/∃ kvs k b,Rd H a (.dT kvs)/\y=.ref b/\H b=some (.tup (k.map kV))/\r=zi kvs k
def DPut(H:Hp)(a:Addr)(y v:V)(H':Hp):Prop:=
 (∃ kvs k,H a=some (.dK kvs)/\y=kV k/\kvs.length<sizeLine/\H'=upd H a (.dK (qab kvs k v))) \/
 ∃ kvs k b,H a=some (.dT kvs)/\y=.ref b/\H b=some (.tup (k.map kV))/\kvs.length<sizeLine/\H'=upd H a (.dT (qab kvs k v))
theorem DGet.k{kvs:List (Key×V)}{k:Key}(e:H a=some (.dK kvs)):DGet H a (kV k) (zi kvs k):=.inl ⟨kvs,k,.inl e,rfl,rfl⟩
theorem DPut.k{kvs:List (Key×V)}{k:Key}{v:V}(e:H a=some (.dK kvs))(hl:kvs.length<sizeLine):DPut H a (kV k) v (upd H a (.dK (qab kvs k v))):=.inl ⟨kvs,k,e,rfl,hl,rfl⟩
section
variable{X:Cx}{pins:List (Addr×Obj)}{σ:St}{H:Hp}{s:Shared}{a:Addr}{y v:V}{u r:Value}{o:Option V}{A:Around}{E:Value->Shared->Prop}
theorem Inv.big(I:Inv X pins σ H s):sysModules<s.heap.objs.size:=by
 have h:mainGlobals<s.heap.objs.size:=(I.mod.glob.keeps I.bk).lt;show kI (by decide) h
theorem d_getItem{Q:Value->Shared->Prop}(x:A.units+1<cLine)(I:Inv X pins σ H s)(g:DGet H a y (some v))(n:RelV y u)(h:∀ f s',Inv X pins σ H s'->RelV v f->Q f s') :
  wpAny (model X.prog X.w) A (getItem (.ref a) u) Q E s:=by
 rcases g with⟨kvs,k,e,j,l⟩ | ⟨kvs,k,b,e,j,q,l⟩
 .subst j;obtain⟨z,r,vs,c,i⟩:=qbZ I.hok e;obtain⟨f,hw,d⟩:=RelO.some_of (v:=v) (o:=valueAt vs k) (by rw[l];show c.val k);show wpAny_getItem_of (qdp n) i.mapOf hw (h f _ (I.tok _) d)
 .subst j;cases (show u=Value.ref b from n);obtain⟨z,r,xs,c,i⟩:=qcr I.hok e;obtain⟨f,hw,d⟩:=RelO.some_of (v:=v) (o:=(atKey xs k).map (·.2)) (by rw[l];show c.val k);obtain⟨p,t,m⟩:=yn.mp hw;show wpAny_getItem_heap (xO x) (qbd I.hok q) i t ?_;rw[m];show h f _ (I.tok _) d
theorem d_in{Q:Value->Shared->Prop}(n:A.units+1<cLine)(I:Inv X pins σ H s)(g:DGet H a y o)(j:RelV y u)(h:∀ s',Inv X pins σ H s'->Q (.bool o.isSome) s') :
  wpAny (model X.prog X.w) A (compareOp .In u (.ref a)) Q E s:=by
 rcases g with⟨kvs,k,e,f,l⟩ | ⟨kvs,k,b,e,f,m,l⟩
 .subst f;obtain⟨z,i,vs,c,d⟩:=qbZ I.hok e;show wpAny_in_of (qdp j) i d.mapOf ?_;rw[<- (c.val k).isSome_eq,<- l];show h _ (I.tok _)
 .subst f;cases (show u=Value.ref b from j);obtain⟨z,i,xs,c,d⟩:=qcr I.hok e;show wpAny_in_heap (xO n) (qbd I.hok m) i d ?_;have q:=(c.val k).isSome_eq;rw[kn] at q;rw[<- q,<- l];show h _ (I.tok _)
theorem d_notIn{Q:Value->Shared->Prop}(n:A.units+1<cLine)(I:Inv X pins σ H s)(g:DGet H a y o)(j:RelV y u)(h:∀ s',Inv X pins σ H s'->Q (.bool (!o.isSome)) s') :
  wpAny (model X.prog X.w) A (compareOp .NotIn u (.ref a)) Q E s:=by
 rcases g with⟨kvs,k,e,f,l⟩ | ⟨kvs,k,b,e,f,m,l⟩
 .subst f;obtain⟨z,i,vs,c,d⟩:=qbZ I.hok e;show wpAny_notIn_of (qdp j) i d.mapOf ?_;rw[<- (c.val k).isSome_eq,<- l];show h _ (I.tok _)
 .subst f;cases (show u=Value.ref b from j);obtain⟨z,i,xs,c,d⟩:=qcr I.hok e;show wpAny_notIn_heap (xO n) (qbd I.hok m) i d ?_;have q:=(c.val k).isSome_eq;rw[kn] at q;rw[<- q,<- l];show h _ (I.tok _)
theorem qdH{c:HO}(I:Inv X pins σ H s)(g:Mut (H a))(f:Heap.SameBut a s.heap h')(d:∃ q,h'.get? a=some q)(new:ObjOk X.prog X.w (upd H a c) h' a c) :
  Inv X pins σ (upd H a c) { s with heap:=h',toks:=t' }:=
 I.write (x:=a) (e:=a) g (.inl rfl) (fun b q hb z=>(f.2 b hb).trans z) d new
theorem dk_new{kvs:List (Key×V)}{vs:List (Key×Value)}(z:kvs.length<=sizeLine)(d:(a==sysModules)=false)(b:KV kvs vs)(c:h'.DictOf (q8 P w) a vs) :
  ObjOk P w H' h' a (.dK kvs):=⟨z,d,vs,b,c⟩
theorem d_setItem{Q:Unit->Shared->Prop}(M:A.units+1<cLine)(I:Inv X pins σ H s)(g:DPut H a y v H')(D:RelV y u)(C:RelV v r)(h:∀ s',Inv X pins σ H' s'->Q () s') :
  wpAny (model X.prog X.w) A (setItem (.ref a) u r) Q E s:=by
 rcases g with⟨kvs,k,e,n,l,m⟩ | ⟨kvs,k,b,e,n,x,l,m⟩
 .subst n m;obtain⟨z,o,vs,d,j⟩:=qfl I.hok e;have t:vs.length<=sizeLine:=by rw[<- d.length];show z
  have hl:(qab kvs k v).length<=sizeLine:=by have:=jS kvs k v;lk
  show wpAny_setItem_pairs (hsz:=t) (qdp D) j fun h' f p=>h _ ?_;have L:∃ q,h'.get? a=some q:=let ⟨q,_,_,i,_⟩:=f;⟨q,i⟩;show qdH I (by rw[e];show YK) p L (dk_new hl o (d.put k C) f)
 .subst n m;cases (show u=Value.ref b from D);obtain⟨z,o,xs,d,j⟩:=dt_of I.hok e;have t:xs.length<=sizeLine:=by rw[<- Paired.length d];show z
  have hl:(qab kvs k v).length<=sizeLine:=by have:=jS kvs k v;lk
  show wpAny_setItem_heap (hsz:=t) (xO M) (qbd I.hok x) j fun h' f p=>h _ ?_;obtain⟨q,es,ep,i,F,G,J,_,K⟩:=f;show qdH I (by rw[e];show YK) p ⟨q,i⟩ ⟨hl,o,_,(d.put k x C).keeps fun c N B=>?_,q,es,ep,i,F,G,J,K⟩;rw[qh (jD B e (fun z=>nomatch z))];show B
end
section
variable{X:Cx}{pins:List (Addr×Obj)}{σ:St}{H:Hp}{s:Shared}{a:Addr}{kvs:List (Key×V)}{k:Key}{u:Value}{A:Around}{E:Value->Shared->Prop}
theorem d_len{Q:Value->Shared->Prop}(I:Inv X pins σ H s)(e:Rd H a (.dK kvs))(h:∀ t s',Inv X pins σ H s'->Q (.int kvs.length t) s'):wpAny (model X.prog X.w) A (call (.builtin "len") [.ref a]) Q E s:=by
 obtain⟨z,d,vs,b,c⟩:=qbZ I.hok e;show call_len_dict d c (by rw[<- b.length];rw[Ys] at z;lk) ?_;rw[<- b.length];show h _ _ (I.tok _)
end
theorem dict_typeIs(I:Inv X pins σ H s)(g:DGet H a y o):s.TypeIs (.ref a) "dict":=by
 rcases g with⟨kvs,k,e,_,_⟩ | ⟨kvs,k,b,e,_,_,_⟩
 .obtain⟨_,_,vs,_,c⟩:=qbZ I.hok e;show c.typeIs
 .obtain⟨_,_,xs,_,c⟩:=qcr I.hok e;show c.typeIs
section
variable{X:Cx}{o i e value:Expr}{pos pos' tpos:Pos}{td ty tv:TE}
end
theorem dk_empty(h:Heap)(hb:sysModules<h.objs.size):ObjOk P w H (h.push { cls:=.type "dict",data:=.dict #[] }) h.objs.size (.dK []):=
 ⟨yU _,Yr.mpr (Yq (yN hb)),[],.nil,Heap.DictOf.new h⟩
def tDNewK:TE:=fun _ H Q=>∀ p,H p=none->Q (.ref p) (upd H p (.dK []))
section
variable{X:Cx}{pos:Pos}
theorem ju:PE X (.Dict [] [] pos) tDNewK:=fun pins s σ H Q I h =>
 wpAny_Dict_empty ⟨.ref s.heap.objs.size,_,I.laid (a:=s.heap.objs.size) (o:=.dK []) (t':=s.toks) (fun _ _ q=>yt _ q) (yh _) (dk_empty s.heap I.big),rfl,h _ (I.hok.fresh (yh _))⟩
end
structure M1(X:Cx)(o:Expr)(m:Str)(apos:Pos)(e:Expr)(cpos:Pos):Prop where
 base:attributeBase o m X.env (eval o X.env)=eval o X.env
 few:((backTo cpos (starEach [e] X.env)).all (fun x=>!x.1)&&(backToKw cpos (keywordEach [] X.env)).all (fun x=>x.1.isSome)
  && decide (([e]:List Expr).length+([]:List Keyword).length+(if ([]:List Keyword).isEmpty then 0 else 1)<30))=true
 line:(apos.endLine==cpos.line)=true
 trees:backTo cpos (starEach [e] X.env)=[(false,eval e X.env)]
structure M2(X:Cx)(o:Expr)(m:Str)(apos:Pos)(e f:Expr)(cpos:Pos):Prop where
 base:attributeBase o m X.env (eval o X.env)=eval o X.env
 few:((backTo cpos (starEach [e,f] X.env)).all (fun x=>!x.1)&&(backToKw cpos (keywordEach [] X.env)).all (fun x=>x.1.isSome)
  && decide (([e,f]:List Expr).length+([]:List Keyword).length+(if ([]:List Keyword).isEmpty then 0 else 1)<30))=true
 line:(apos.endLine==cpos.line)=true
 trees:backTo cpos (starEach [e,f] X.env)=[(false,eval e X.env),(false,eval f X.env)]
def IsD(H:Hp)(a:Addr):Prop:=(∃ kvs,Rd H a (.dK kvs))\/∃ kvs,Rd H a (.dT kvs)
theorem isD_at(I:Inv X pins σ H s)(d:IsD H a) :
  s.TypeIs (.ref a) "dict"/\(∀ b,Value.ref a=.ref b->∃ c,s.heap.get? b=some c/\c.dict=none)/\(a==sysModules)=false:=by
 rcases d with⟨kvs,e⟩ | ⟨kvs,e⟩
 .obtain⟨_,h,vs,_,f⟩:=qbZ I.hok e;show⟨f.typeIs,fun b q=>?_,h⟩;cases q;obtain⟨c,_,_,h1,g,_⟩:=f;show⟨c,h1,g.2.1⟩
 .obtain⟨_,h,xs,_,f⟩:=qcr I.hok e;show⟨f.typeIs,fun b q=>?_,h⟩;cases q;obtain⟨c,_,_,h1,g,_⟩:=f;show⟨c,h1,g.2.1⟩
section
variable{X:Cx}{pins:List (Addr×Obj)}{σ:St}{H:Hp}{s:Shared}{a:Addr}{y d:V}{u r:Value}{o:Option V}{A:Around}{E:Value->Shared->Prop}
theorem d_get1{Q:Value->Shared->Prop}(p:A.units+1<cLine)(I:Inv X pins σ H s)(g:DGet H a y o)(j:RelV y u)(h:∀ m s',Inv X pins σ H s'->RelV (o.getD .non) m->Q m s') :
  wpAny (model X.prog X.w) A (call (.builtin "dict.get") [.ref a,u]) Q E s:=by
 rcases g with⟨kvs,k,e,f,l⟩ | ⟨kvs,k,b,e,f,n,l⟩
 .subst f;obtain⟨z,i,vs,c,d⟩:=qbZ I.hok e;show call_meetsIn XA d.typeIs PySem.F.entry_dict_get (PySem.F.args_dict_get_2 _ _) (meets_dict_get (q8 X.prog X.w) a (qdp j) i) ⟨_,d.mapOf,h _ _ (I.tok _) ?_⟩;rw[l];show(c.val k).getD rfl
 .subst f;cases (show u=Value.ref b from j);obtain⟨z,i,xs,c,d⟩:=qcr I.hok e;show call_meetsIn XA d.typeIs PySem.F.entry_dict_get (PySem.F.args_dict_get_2 _ _) (meetsH_dict_get (tupleKind (q8 X.prog X.w)) a b i) ⟨xO p,k,xs,qbd I.hok n,d,h _ _ (I.tok _) ?_⟩;rw[l];show(c.val k).getD rfl
end
def qer(d ty:TE):TE:=fun σ H Q=>d σ H fun x b=>∃ a,x=.ref a/\IsD b a/\ty σ b fun y c=>∃ o,DGet c a y o/\Q (o.getD .non) c
def tDGet2(e ty f:TE):TE:=fun σ H Q=>e σ H fun x b=>∃ a,x=.ref a/\IsD b a/\ty σ b fun y d=>f σ d fun z c=>∃ o,DGet c a y o/\Q (o.getD z) c
section
variable{X:Cx}{o e f:Expr}{apos cpos:Pos}{td ty tx:TE}
theorem qac(r:X.A.units+1<cLine)(q:PE X o td)(p:PE X e ty)(m:M1 X o "get" apos e cpos):PE X (.Call (.Attribute o "get" apos) [e] [] cpos) (qer td ty):=by
 intro pins s σ H Q I h;show wpAny_Call_method m.base m.few m.line PySem.F.plainAttrs_dict XA PySem.F.type_dict_get (thn (q pins s σ H _ I h) fun u B ⟨x,f,c,w,a,n,d,t⟩=>?_);subst n;obtain rfl:u=Value.ref a:=w;obtain⟨C,D,_⟩:=isD_at c d;show⟨C,D,?_⟩;rw[m.trees];show xN rfl (XR (Calls.spliced_cons (thn (p pins B σ f _ c t) fun E J ⟨y,i,j,z,G,g,v⟩=>Calls.spliced_nil ?_)));show d_get1 r j g z fun L K l b=>⟨_,i,l,b,v⟩
end
section
variable{X:Cx}{pins:List (Addr×Obj)}{σ:St}{H:Hp}{s:Shared}{a:Addr}{kvs:List (Key×V)}{A:Around}{E:Value->Shared->Prop}
end
section
variable{X:Cx}{pins:List (Addr×Obj)}{σ:St}{H:Hp}{s:Shared}{a:Addr}{y:V}{u:Value}{A:Around}{E:Value->Shared->Prop}
end
end L2
namespace Att
open PySem PySem.W PySem.Calls PyProof.Rows
variable{P:Params}{h:Heap}{l:OpenLaw}{n:Nat}
theorem ints_of_wellAll:∀(ns:LQ) (vs:List Value),WellAll P h vs (ns.map WData.int)->IntsAre vs ns:=by
 intro ns
 induction ns with
 | nil =>
  intro vs w;rw[kH] at w;cases w;show .nil
 | cons n ns ih =>
  intro vs w;rw[yJ] at w
  cases w with
  | cons a b =>
   cases a;show .cons _ _ (ih _ b)
theorem script_of(p:l.most=some n){args:List WData}{c:List Value}
  (b:l.row.toRowW.claim.pre args=true) (j:WellAll P h c args) :
  ∃ a vs ns,c=[Value.ref a]/\args=[WData.list (ns.map WData.int)]/\h.get? a=some { cls:=.type "list",data:=.seq vs.toArray }/\IntsAre vs ns/\ns.length<=n:=by
 have i:WShape.hasAll [] args [.list .int]=true:=(pre_splitW b).1;have hc:l.pre.holds [] { args:=args }=true:=(pre_splitW b).2;obtain⟨d,r,rfl,h1,m⟩:=hasAllW_cons i;obtain rfl:=hasAllW_nil m;obtain⟨xs,rfl,o⟩:=hasW_list h1;obtain⟨ns,rfl⟩:=items_int o
 have e:ns.length<=n:=by
  unfold OpenLaw.pre at hc
  have f:(WTm.not (.lt (.lit (.int (n:Int))) (.len (.arg 0)))).holds [] { args:=[.list (ns.map .int)] }=true:=by
   have f:=(holds_andW hc).1;rw[p] at f;show f
  have g:=condW_of f (w_not (w_lt w_lit (w_len_list (w_arg rfl))));rw[ya] at g;show Nat.le_of_not_lt fun q=>?_;have s:(n:Int)<((ns.length:Nat):Int):=by lk
  first
   | (rw[yD s] at g;show absurd g (by decide))
   | (simp at g;lk)
 cases j with
 | cons w1 w2 =>
  cases w2
  cases w1 with
  | list ho hall=>show⟨_,_,ns,rfl,rfl,ho,ints_of_wellAll ns _ hall,e⟩
theorem post_true(l:OpenLaw)(args:List WData):l.row.toRowW.claim.post args (.bool true) args=true:=
 postW_of (r:=l.row.toRowW) (X:=(true==true))
  (show WShape.has [] (.bool true) .bool=true by first | rfl | decide | simp[WShape.has,WShape.arms,WShape.armsAll])
  (show(WTm.eq .res (.lit (.bool true))).value [] { args:=args,res:=some (.bool true),after:=args }=some (.bool (true==true)) from w_eq_bool (w_res rfl) w_lit) rfl
theorem attach_call{q:Program}{loose:LS}{XP:(Str->Option Value)->Heap->Prop}{YP:World->Heap->Prop}{d:DefRec}
  (L:l.most=some n) (t:d.params.defaults=[])
  (call:∀(w:World) (c b:Shared) (mg x:Str->Option Value) (h:Addr) (o:Obj) (y p e:Value) (a:Addr) (vs:List Value) (ns:LQ),
   Ground q loose [] XP w c mg x b.heap->YP w b.heap ->
   b.heap.get? h=some o->o.data=.func (docDef d.name d.params d.body d.scope y p e)->b.heap.CodeRec p d.name->mg d.name=some (.ref h) ->
   b.heap.get? a=some { cls:=.type "list",data:=.seq vs.toArray }->IntsAre vs ns->ns.length<=n->b.gens=#[] ->
   codeAny (model l.prog w) callerA (.call (.ref h) ⟨[.ref a],[]⟩) (fun r s'=>r=.ok (.ret (.bool true))/\OldK b.heap s'.heap/\s'.os=b.os/\AllBare s'.gens) b) :
  WalkO q loose XP YP l.row.toRowW d [] (fun f vs=>PySem.call f vs):=by
 intro w c b mg x G Y h o y p e C kV M H s z u I args B P m A O v J;obtain rfl:C=.none:=Dflts.none z t;obtain rfl:kV=.none:=Dflts.noKw z;obtain⟨a,vs,ns,rfl,rfl,j,g,i⟩:=script_of L m v;show enter_call (Y6 (call w c b mg x h o y p e a vs ns G Y M (fd_plain H) s u j g i I) fun r s' N=>?_);obtain⟨rfl,D,E,F⟩:=N;show⟨.inl ⟨.bool true,.bool true,[],rfl,fun _=>rfl,.bool true,post_true l _,fun _=>⟨List.Pairwise.nil,fun _ K=>(nomatch K)⟩⟩,D,E,F⟩
section
variable{prog:Program}{w:World}{A:Around}{E:Value->Shared->Prop}{s:Shared}{K:Frag}
noncomputable def ledger(h:Heap)(L d:Addr):List (Addr×Obj):=(List.range h.objs.size).filterMap fun a=>if a=L\/a=d then none else(h.get? a).map fun o=>(a,o)
end
end Att
namespace L2
open PySem PySem.Spec PyProof.Rows
variable{A B:Prop}{H H':Hp}{a f:Addr}{fd:FuncData}{n:Nat}{ps:LS}{qual x:Str}{sp:Sp}{st:Stmt}
theorem qad:∀{vs:List Value} {ns:LQ},IntsAre vs ns->Vals (ns.map V.int) vs
 | _,_,.nil=>.nil
 | _,_,.cons n t h=>.cons ⟨t,rfl⟩ (qad h)
def qfH(H:Hp):Prop:=∀ b,H b=none\/∃ o xs,H b=some (.frz o (.lst xs))
theorem law_call{P:Program}{w:World}{K:yg}{mg N:Str->Option Value}{CX:CXT}{k:Nat}{G:Addr}{c:Shared}{vs:List Value}{ns:LQ}
  (R:K.In c.heap) (t:c.heap.Ns mainGlobals mg) (hb:c.heap.Ns builtinsNs N) (J:∀ x:Str,x≠"__name__"->N x=bootBuiltins x) (p:c.heap.NoLimit) (hg:c.gens=#[])
  (D:c.heap.get? a=some { cls:=.type "list",data:=.seq vs.toArray }) (W:IntsAre vs ns) (hl:ns.length<=sizeLine) (hr:Room k callerA)
  (F:∀ base:Heap,K.In base->base.Ns mainGlobals mg->FnOk P w K mg base CX k G fd [x] sp) (i:∀(s:Shared) (u:Value),BindsTo s fd ⟨[u],[]⟩ [(x,u)])
  (M:∀ H:Hp,qfH H->SqL K H a (ns.map V.int)->sp [.ref a] H (fun v _=>v=.bl true) fun _ _ _=>False)
  (I:∀ H e s',CX [] H c (fun _ _ _=>False) e s'->False) :
  codeAny (model P w) callerA (.call (.ref G) ⟨[.ref a],[]⟩) (fun r s'=>r=.ok (.ret (.bool true))/\OldK c.heap s'.heap/\s'.os=c.os/\AllBare s'.gens) c:=by
 have X:=qad W;have B:=W.length;have g:∀ H:Hp,qfH H->SqL K H a (ns.map V.int)->HOk P w H c.heap->(∀ b,H b≠none->b=a)->(H a≠none->K.lookup a=none) ->
   codeAny (model P w) callerA (.call (.ref G) ⟨[.ref a],[]⟩) (fun r s'=>r=.ok (.ret (.bool true))/\OldK c.heap s'.heap/\s'.os=c.os/\AllBare s'.gens) c:=by
  intro H U hS y T hK;have base_of:∀{b:Addr} {o:Obj},c.heap.get? b=some o->H b=none->(qcI c.heap H).get? b=some o:=fun e n=>qcJ e n
  have O:∀{b:Addr} {o:Obj} {es:Array DictEntry} {ep:Nat},c.heap.get? b=some o->o.data=.dict es ep->H b=none:=fun{b o es ep} e d=>by
   cases q:H b with
   | none=>rfl
   | some u =>
    have E:b=a:=T b (by rw[q];simp);subst E;rw[D] at e;cases e;have d':Data.seq vs.toArray _=Data.dict es ep:=d;cases d'
  have f:∀{b:Addr} {m:Str->Option Value},c.heap.Ns b m->(qcI c.heap H).Ns b m:=fun{b m} ⟨o,es,ep,e,d,r⟩=>⟨o,es,ep,base_of e (O e d),d,r⟩
  have l:K.In (qcI c.heap H):=fun b o e=>base_of (R b o e) (by
   cases q:H b with
   | none=>rfl
   | some u =>
    have E:b=a:=T b (by rw[q];simp);subst E;rw[hK (by rw[q];simp)] at e;cases e)
  have hM:Mod K mg (qcI c.heap H):=⟨l,f t,⟨N,f hb,J⟩,let ⟨mc,h1,h2⟩:=p;⟨mc,f h1,h2⟩⟩;have Y:Env0 P w K mg (qcI c.heap H) callerA [] c H:=⟨rfl,hM,fun b o e=>qdw e,Xb (qbJ _ _),trivial,fun b hb=>absurd (show b∈([]:LI) from hb) (by simp),y,.of_eq hg⟩;show Y6 ((F _ l (f t)).run callerA [] c H ⟨[.ref a],[]⟩ [.ref a] [.ref a] _ _ hr Y (i c (.ref a)) (.cons rfl .nil) (M H U hS)) fun r s' h=>?_
  cases r with
  | error e=>show(I H e s' h).elim
  | ok fl =>
   cases fl with
   | next=>show False.elim h
   | brk=>show False.elim h
   | cont=>show False.elim h
   | ret u =>
    obtain⟨v,H',os,j,un,A,r',q⟩:=h;have q':v=.bl true:=q;subst q';obtain rfl:u=Value.bool true:=r';show⟨rfl,OldK.of_keep fun b o e=>?_,os,j⟩
    cases q:H b with
    | none=>show un.keep b o e q (by intro z;show absurd (show b∈([]:LI) from z) (by simp)) (by simp)
    | some u =>
     rcases U b with z | ⟨ob,xs,z⟩
     .rw [q] at z;cases z
     .have z2:=un.frzs b ob _ z;obtain⟨S,_⟩:=y b _ z;obtain⟨Z,_⟩:=A b _ z2;rw[e] at S;cases S;show Z
 cases L:K.lookup a with
 | some o =>
  have e:=R a o L;rw[D] at e;cases e;show g (fun _=>none) (fun _=>.inl rfl) (.inr ⟨_,vs.toArray,_,L,rfl,rfl,rfl,by rw[yw,B];show hl,by simpa using X⟩) (fun b u z=>by have C:(none:Option HO)=some u:=z;cases C) (fun b z=>absurd rfl z) fun z=>absurd rfl z
 | none =>
  show g (fun b=>if b=a then some (.frz { cls:=.type "list",data:=.seq vs.toArray } (.lst (ns.map V.int))) else none) (fun b=>?_) (.inl (.inr ⟨{ cls:=.type "list",data:=.seq vs.toArray },yG rfl⟩)) (fun b u z=>?_) (fun b z=>?_) fun _=>L
  .by_cases hb:b=a
   .show .inr ⟨_,_,yG hb⟩
   .show .inl (yB hb)
  .by_cases hb:b=a
   .have C:=(yG hb).symm.trans z;cases C;subst hb;show⟨D,by rw[ya];show hl,vs,_,X,D⟩
   .have C:=(yB hb).symm.trans z;cases C
  .by_cases hb:b=a
   .show hb
   .show absurd (yB hb) z
noncomputable abbrev KOf{K:yg}{h:Heap}(_:K.In h):yg:=K
theorem walk_of{l:PySem.W.OpenLaw}{k:Nat}{q:Program}{loose:LS}{XP:(Str->Option Value)->Heap->Prop}{YP:World->Heap->Prop}{d:DefRec}{K:Params->yg}{CX:World->CXT}{sp:World->Sp}
  (O:l.most=some n) (z:n<=sizeLine) (t:d.params.defaults=[]) (P:Room k callerA)
  (L:∀(w:World) (h:Heap),YP w h->(K w.params).In h)
  (F:∀(w:World) (mg:Str->Option Value) (p:Addr) (h:Heap),(K w.params).In h->h.Ns mainGlobals mg->mg d.name=some (.ref p) ->
   ∃ fd:FuncData,(∀(s:Shared) (u:Value),BindsTo s fd ⟨[u],[]⟩ [(x,u)]) /\
    ∀ base:Heap,(K w.params).In base->base.Ns mainGlobals mg->FnOk l.prog w (K w.params) mg base (CX w) k p fd [x] (sp w))
  (A:∀(w:World) (H:Hp) (a:Addr) (ns:LQ),ns.length<=n->qfH H->SqL (K w.params) H a (ns.map V.int)->sp w [.ref a] H (fun v _=>v=.bl true) fun _ _ _=>False)
  (r:∀(w:World) (H:Hp) (s:Shared) (e:Value) (s':Shared),CX w [] H s (fun _ _ _=>False) e s'->False) :
  PySem.W.WalkO q loose XP YP l.row.toRowW d [] (fun f vs=>PySem.call f vs):=by
 show Att.attach_call O t fun w C m mg X p o Z R D a vs ns G Y U S M y j i c N=>?_;have B:=L w _ Y;obtain⟨fd,hb,E⟩:=F w mg p _ B G.T.g y;show law_call B G.T.g G.T.b G.T.builtins G.T.nolimit N j i (yi c z) P E hb (fun H I J=>A w H a ns c I J) fun H e s'=>r w H m e s'
abbrev CX0:CXT:=fun _ _ _ _ _ _=>False
abbrev E0:XK:=fun _ _ _=>False
theorem qy{X:Cx}:zE CX0 X E0:=fun _ _ _ _ _ _ _ h=>h.elim
structure Fun(K:yg)(x qual:Str)(st:Stmt)(f:Addr)(fd:FuncData):Prop where
 ex:∃(oc:Value) (od:Option Addr) (kV doc pm:Value) (an:Option Addr) (cdv ct:Value) (osl:Array (Option Value)),
  fd=PySem.W.fnOf x qual (zV st) (jE st) (qg st) .none kV doc pm an cdv ct/\K.lookup f=some ⟨oc,od,.func fd,osl⟩/\PySem.W.codeIn K cdv qual=true
 kp:PySem.W.keepIn K (.ref f)=true
section
variable{P:Program}{w:World}{K:yg}{mg:Str->Option Value}{base:Heap}
theorem Fun.ok{N:LS}{k:Nat}(F:Fun K x qual st f fd)(S:FnScope N ps (qg st)) (c:∀(b:Value) (A:Around) (a:List Env) (s:Shared) (H:Hp) (vs:List V) (Q:VK) (E:XK),Room k (A.deeper (envOfC qual (qg st) s.heap.objs.size f b))->sp vs H Q E ->
   ∃ t,PSs (qcp CX0 P w K mg base N qual (qg st) f b A a s H E).nox (jE st) t/\t { nx:=fun _ H'=>Q .non H',rt:=Q } (start N vs) H) (len:∀ vs H Q E,sp vs H Q E->vs.length=ps.length:=by intro _ _ _ _ h;cases h;subst_vars;rfl):FnOk P w K mg base CX0 (k+1) f fd ps sp:=by
 obtain⟨n,od,kV,g,o,m,b,ct,l,rfl,j,d⟩:=F.ex;show qec j d S len fun A a s H vs Q E i e=>?_;obtain⟨t,h,q⟩:=c b A a s H vs Q E i e;show⟨t,h.nox,q⟩
theorem Fun.binds(F:Fun K x qual st f fd)
  (h:∀(kV b d:Value) (c:Option Addr) (a ct:Value) (us:List Value),us.length=ps.length->bindArgs (PySem.W.fnOf x qual (zV st) (jE st) (qg st) .none kV b d c a ct) ⟨us,[]⟩=pure (ps.zip us)):Binds K fd ps []:=by
 obtain⟨j,od,kV,b,d,c,a,ct,g,rfl,i,e⟩:=F.ex;show .all (h kV b d c a ct)
theorem fun_mk{h:Value}{od e:Option Addr}{d:Array (Option Value)}{kV b g a ct:Value}(l:K.lookup f=some ⟨h,od,.func (PySem.W.fnOf x qual (zV st) (jE st) (qg st) .none kV b g e a ct),d⟩)
  (c:PySem.W.codeIn K a qual=true) (k:PySem.W.keepIn K (.ref f)=true):Fun K x qual st f (PySem.W.fnOf x qual (zV st) (jE st) (qg st) .none kV b g e a ct):=⟨⟨h,od,kV,b,g,e,a,ct,d,rfl,l,c⟩,k⟩
end
theorem qi(h:n<=1000):n<sizeLine:=xw h (by decide)
section
variable{X:Cx}
theorem pv(i:Nat){pos:Pos}(b:X.N[i]?=some x:=by rfl)(hv:Vis X.env.scope x:=by first | show yI rfl | show Xw (yI rfl) | show Xw (Xw rfl))(c:(x==("__debug__":Str))=false:=by decide)
  (a:(x==("__classdict__":Str))=false:=by decide):PE X (.Name x pos) (qfa i):=pe_var b hv c a
theorem call_lenD:jX X (.builtin "len") (fun xs H Q=>∃ a kvs,xs=[V.ref a]/\H a=some (.dK kvs)/\Q (.int kvs.length) H):=by
 intro b s f H xs us Q I r h;obtain⟨a,kvs,rfl,d,q⟩:=h;obtain⟨u,rfl,e⟩:=qaa r;cases e;show d_len I (.inl d) fun t s' c=>⟨.int kvs.length,H,c,⟨t,rfl⟩,q⟩
end
theorem qaC(h:A):if true=true then A else B:=by
 rw[yG rfl];show h
theorem qE{c:Prop}[Decidable c](h1:c->A)(a:¬ c->B):if c then A else B:=by
 by_cases h:c
 .rw [yG h];show h1 h
 .rw [yB h];show a h
def Same(H H':Hp):Prop:=∀ b o,H b=some o->H' b=some o
theorem Same.refl(H:Hp):Same H H:=fun _ _ h=>h
theorem Same.trans{d e:Hp}(a:Same H d)(b:Same d e):Same H e:=fun c o h=>b c o (a c o h)
theorem Same.free(e:Same H H'){l:Addr}(h:H' l=Option.none):H l=Option.none:=by
 cases q:H l with
 | none=>rfl
 | some o =>
  rw[e l o q] at h;cases h
theorem Same.seq{K:yg}{xs:List V}(e:Same H H')(h:SqL K H a xs):SqL K H' a xs:=by
 rcases h with(h | ⟨o,h⟩) | h
 .show .inl (.inl (e _ _ h))
 .show .inl (.inr ⟨o,e _ _ h⟩)
 .show .inr h
section
variable{κ:Type}[DecidableEq κ]
end
end L2
set_option maxHeartbeats 4000000
namespace L2
open PySem PySem.Spec PyProof.Rows
variable{A:Around}{C D a a0 c e f it p:Addr}{E:Value->Shared->Prop}{H H':Hp}{M:Model}{N ps:LS}{P prog:Program}{QO:Option Int->Hp->Prop}{R:It->Hp->Prop}{T:String}{X:Cx}{acc:List (Str×Addr)}{b expr:Bool}{elt iter tg:Expr}{env:Env}{fd:FuncData}{fl t u:Value}{fp zs:LI}{g:TG}{h h':Heap}{i j:Int}{ifs:List Expr}{its l us:List Value}{ixs:LN}{n nl:Nat}{names:List (Str×NameKind)}{od:Option Obj}{ox:Obj}{pins:List (Addr×Obj)}{pl:Sem Bool}{qual x z:Str}{s:Shared}{sc scope:Scope}{sp:Sp}{tc:TT}{te:TE}{tk:Tok}{v y:V}{vs:Array Value}{w:World}{wi:TI}{xs ys:List V}{σ:St}
section
variable{prog:Program}{w:World}{A:Around}{R:Result->Shared->Prop}{s:Shared}
theorem compLoop_own{a:Expr}{pos:Pos}{it acc:Value}(I:Nat->Shared->Prop)
  (d:∀ n s,I n s->wpAny (model prog w) A (pyNext it) (fun r f=>match r with
   | none=>R (.ok .next) f
   | some v=>wpAny (model prog w) A (letOwnedTupleGo a it v) (fun _ b=>wpAny (model prog w) A (assign a env v) (fun _ j =>
     wpAny (model prog w) A (forIn ifs true fun c r=>if r=true then do let ok <- isTrue c env (eval c env);pure (ForInStep.yield ok) else pure (ForInStep.yield r)) (fun ok g =>
      if ok=true then wpAny (model prog w) A (eval elt env) (fun x l =>
       wpAny (model prog w) A (call (.builtin "list.append") [acc,x]) (fun _ o=>∃ m,m<n/\I m o) (fun _ _=>False) l) (fun _ _=>False) g
      else ∃ m,m<n/\I m g) (fun _ _=>False) j) (fun _ _=>False) b) (fun _ _=>False) f) (fun _ _=>False) s)
  (n:Nat) (h:I n s) :
  codeAny (model prog w) A (.compLoop (.ListComp elt [⟨a,iter,ifs,0⟩] scope pos) 0 it acc env) R s:=by
 show codeAny_loop rfl I (fun n s u=>?_) n h;show wpAny _ A ((compTurn (.ListComp elt [⟨a,iter,ifs,0⟩] scope pos) 0 it acc env).onRaise (fun x=>do noteFrame x env;theTreesLotGoes x)) _ _ s;show wpAny_noted ?_;rw[compTurn_list];show yr (xT (yr (Ym (d n s u) (fun r f h1=>?_) fun _ _ h'=>h'.elim)))
 cases r with
 | none=>show yv h1
 | some v =>
  show yr (Ym h1 (fun _ b e=>?_) fun _ _ h'=>h'.elim);show yr (Ym e (fun _ j p=>yr (Ym p (fun ok g i=>?_) fun _ _ h'=>h'.elim)) fun _ _ h'=>h'.elim)
  cases ok with
  | false=>show yv ⟨rfl,i⟩
  | true =>
   show yr (yr (Ym i (fun x l q=>yr (Ym q (fun _ o t=>yv (yv ⟨rfl,t⟩)) fun _ _ h'=>h'.elim)) fun _ _ h'=>h'.elim))
end
noncomputable def qB(env:Env):List (Str×NameKind)->List (Str×Addr)->List (Str×Addr)
 | [],acc=>acc
 | (n,k)::r,acc=>qB env r (if (k==.free)=true then(n,(env.cells.lookup n).getD 0)::acc else acc)
theorem zm:∀{names:List (Str×NameKind)} {acc:List (Str×Addr)} {x:Str} {c:Addr},(qB env names acc).lookup x=some c ->
  ((x,NameKind.free)∈names/\c=(env.cells.lookup x).getD 0)\/acc.lookup x=some c
 | [],_,_,_,h=>.inr h
 | (n,k)::r,acc,x,c,h=>by
  unfold qB at h;rcases zm h with⟨h1,f⟩ | h1
  .show .inl ⟨yu _ h1,f⟩
  .by_cases a:(k==NameKind.free)=true
   .rw [yG a,xt] at h1
    cases b:x==n with
    | true =>
     rw[b] at h1;have e:x=n:=yY.mp b;have d:k=.free:=yY.mp a;subst e d;show .inl ⟨yy,(ym h1).symm⟩
    | false =>
     rw[b] at h1;show .inr h1
   .rw [yB a] at h1;show .inr h1
theorem qae:∀{names:List (Str×NameKind)} {acc:List (Str×Addr)} {x:Str},(∃ c,acc.lookup x=some c)->∃ c,(qB env names acc).lookup x=some c
 | [],_,_,h=>h
 | (n,k)::r,acc,x,h=>by
  unfold qB;apply qae;by_cases a:(k==NameKind.free)=true
  .rw [yG a,xt]
   cases b:x==n with
   | true=>show⟨_,rfl⟩
   | false=>show h
  .rw [yB a];show h
theorem zn:∀{names:List (Str×NameKind)} {acc:List (Str×Addr)} {x:Str},(x,NameKind.free)∈names->∃ c,(qB env names acc).lookup x=some c
 | [],_,_,h=>by cases h
 | (n,k)::r,acc,x,h=>by
  unfold qB;rcases yA.mp h with e | e
  .cases e;apply qae;rw[show(NameKind.free==NameKind.free)=true from rfl,yG rfl,xt,xu];show⟨_,rfl⟩
  .show zn e
theorem qaf(h:∀ n,(n,NameKind.free)∈scope.names->∃ c,env.cells.lookup n=some c):closureFor scope env=pure (qB env scope.names []):=by
 have f:∀(names:List (Str×NameKind)) (acc:List (Str×Addr)),(∀ n,(n,NameKind.free)∈names->∃ c,env.cells.lookup n=some c) ->
   (forIn names acc (fun(x:Str×NameKind) (r:List (Str×Addr))=>(if (x.2==NameKind.free)=true then(cellOf env x.1>>=fun c=>pure (ForInStep.yield ((x.1,c)::r))) else pure (ForInStep.yield r):Sem (ForInStep (List (Str×Addr))))))=(pure (qB env names acc):Sem (List (Str×Addr))):=by
  intro names
  induction names with
  | nil=>intro acc _;rfl
  | cons x r ih =>
   intro acc d;obtain⟨n,k⟩:=x;rw[List.forIn_cons];unfold qB;by_cases a:(k==NameKind.free)=true
   .have g:k=.free:=yY.mp a;subst g;obtain⟨c,hc⟩:=d n yy;have i:cellOf env n=pure c:=by unfold cellOf;rw[hc]
    simp only[a,Xi,i,hc,Option.getD_some];show ih _ fun m b=>d m (yu _ b)
   .simp only[a,ke];show ih _ fun m b=>d m (yu _ b)
 have e:=f scope.names [] h;unfold closureFor;show Eq.trans (congrArg (fun m=>m>>=pure) e) rfl
@[reducible] noncomputable def Cx.comp(X:Cx)(N:LS)(scope:Scope)(C:Addr)(s0:Shared)(H0:Hp)(ex:LI):Cx where
 prog:=X.prog
 w:=X.w
 K:=X.K
 mg:=X.mg
 base:=X.base
 A:=X.A
 N:=N
 s₀:=s0
 H₀:=H0
 env:=compEnvC scope (cellsFrom (C+1) scope.names (qB X.env scope.names [])) C X.env
 outer:=X.stack
 stack:=X.stack
 ex:=ex
 fn:=fun x=>scope.names.lookup x==some NameKind.cell
 calm:=X.calm
 pn:=[]
 xe:=fun _ _=>False
theorem jf:∀(names:List (Str×NameKind)) (n:Nat) (acc:List (Str×Addr)),cellsFrom n names acc=cellsFrom n names []++acc
 | [],_,_=>rfl
 | (m,k)::r,n,acc=>by
  unfold cellsFrom;split
  .rw [jf r (n+1) ((m,n)::acc),jf r (n+1) [(m,n)],YE];rfl
  .show jf r n acc
theorem qag:∀{names:List (Str×NameKind)} {n:Nat} {x:Str},(x,NameKind.cell)∈names->∃ c,(cellsFrom n names []).lookup x=some c
 | (m,k)::r,n,x,h=>by
  unfold cellsFrom;rcases yA.mp h with e | e
  .cases e;rw[yG (show(NameKind.cell==NameKind.cell)=true from rfl),jf,xx]
   cases q:(cellsFrom (n+1) r []).lookup m with
   | some c=>show⟨c,rfl⟩
   | none=>show⟨n,by show List.lookup m [(m,n)]=some n;rw[xt,xu]⟩
  .split
   .rw [jf,xx];obtain⟨c,hc⟩:=qag (n:=n+1) e;show⟨c,by rw[hc];rfl⟩
   .show qag e
theorem qaU:∀{names:List (Str×NameKind)} {n:Nat} {x:Str} {c:Addr},(x,c)∈cellsFrom n names []->(x,NameKind.cell)∈names
 | (m,k)::r,n,x,c,h=>by
  unfold cellsFrom at h;split at h
  .rename_i hk
   rw[jf] at h;rcases yH.mp h with z | z
   .show yu _ (qaU z)
   .have e:(x,c)=(m,n):=yx.mp z;cases e;rw[yY.mp hk];show yy
  .show yu _ (qaU h)
theorem qaV(h:(cellsFrom n names acc).lookup x=some c):(x,c)∈cellsFrom n names []\/acc.lookup x=some c:=by
 rw[jf,xx] at h
 cases e:(cellsFrom n names []).lookup x with
 | some d=>rw[e] at h;cases h;show .inl (mem_of_lookup e)
 | none=>rw[e] at h;show .inr h
theorem cells_some(h:(x,NameKind.cell)∈names\/∃ c,acc.lookup x=some c):∃ c,(cellsFrom n names acc).lookup x=some c:=by
 rw[jf,xx]
 cases e:(cellsFrom n names []).lookup x with
 | some d=>show⟨d,rfl⟩
 | none =>
  rcases h with z | ⟨c,hc⟩
  .obtain⟨d,a⟩:=qag (n:=n) z;rw[e] at a;cases a
  .show⟨c,hc⟩
section
variable{M:Model}{A:Around}{E:Value->Shared->Prop}{s:Shared}
theorem newEnvK{c:Addr}{b:List (Str×Addr)}{f:Option Addr}{e:Value}{d:Env}{a:Addr}{Q:Env->Shared->Prop}
  (i:Q (newEnv scope s.heap.objs.size c (cellsFrom (s.heap.objs.size+1) scope.names b) qual f e (some d) a) { s with heap:=pushCells (s.heap.push { cls:=.type "dict",data:=.dict #[] }) scope.names }) :
  wpAny M A (newFunctionEnv scope c b [] qual f e (some d) a) Q E s:=by
 simp only[newFunctionEnv,Option.isSome_some,Xi];show yr (wpAny_alloc ?_);show yr (wpAny_layCells _ (fun name kind g=>by cases h:kind==NameKind.cell<;>simp[h]) _ _ _ _ ?_);rw[show({ s with heap:=s.heap.push { cls:=.type "dict",data:=.dict #[] } }:Shared).heap.objs.size=s.heap.objs.size+1 from YL ..];rw[List.forIn_nil];show yr (yv (yv i))
end
structure CompOk(sc scope:Scope):Prop where
 kind:scope.kind=.function
 cel:∀ y∈scope.names,y.2=.cell->scope.names.lookup y.1=some .cell
 loc:∀ y∈scope.names,y.2=.local->scope.names.lookup y.1=some .local
 free:∀ y∈scope.names,y.2=.free->sc.names.lookup y.1=some .cell\/sc.names.lookup y.1=some .free
 once:∀ y∈scope.names,y.2=.free->scope.names.lookup y.1=some .free
noncomputable def qed(sc scope:Scope):Bool:=decide (scope.kind=.function)&&scope.names.all fun y=>match y.2 with
 | .local=>scope.names.lookup y.1==some .local
 | .free=>(sc.names.lookup y.1==some .cell||sc.names.lookup y.1==some .free)&&scope.names.lookup y.1==some .free
 | .cell=>scope.names.lookup y.1==some .cell
 | _=>true
theorem qcR(h:qed sc scope=true):CompOk sc scope:=by
 unfold qed at h;rw[yX] at h;have b:=YD.mp h.2;show⟨yk h.1,fun y a e=>?_,fun y a e=>?_,fun y a e=>?_,fun y a e=>?_⟩
 .have:=b y a;rw[e] at this;show yY.mp this
 .have:=b y a;rw[e] at this;show yY.mp this
 .have:=b y a;rw[e,yX,Bool.or_eq_true] at this;show this.1.imp yY.mp yY.mp
 .have:=b y a;rw[e,yX] at this;show yY.mp this.2
noncomputable def qfI(nl:Nat)(ixs:LN)(N XN:LS)(names:List (Str×NameKind)):Bool:=(List.range ixs.length).all fun k=>match ixs[k]?,N[nl+k]? with
 | some j,some x=>XN[j]?==some x&&names.any fun y=>y.1==x&&y.2==.free
 | _,_=>true
theorem qdI{XN:LS}(h:qfI nl ixs N XN names=true)(k j:Nat)(x:Str)(h1:ixs[k]?=some j)(c:N[nl+k]?=some x):XN[j]?=some x/\(x,NameKind.free)∈names:=by
 have d:k<ixs.length:=(yc.mp h1).1;have:=YD.mp h k (yV.mpr d);rw[h1,c] at this;simp only[yX] at this;show⟨yY.mp this.1,?_⟩;obtain⟨⟨n,g⟩,f,e⟩:=xK.mp this.2;rw[yX] at e;have a:n=x:=yY.mp e.1;have b:g=.free:=yY.mp e.2;subst a b;show f
noncomputable def qdu(nl:Nat)(ixs:LN)(σ:St):St:=List.replicate nl none++ixs.map fun j=>(σ[j]?).getD none
theorem capS_len(nl:Nat)(ixs:LN)(σ:St):(qdu nl ixs σ).length=nl+ixs.length:=by
 unfold qdu;rw[yz,xA,ya]
theorem qcS{i:Nat}(h:(qdu nl ixs σ)[i]?=some (some v)):nl<=i/\∃ j,ixs[i-nl]?=some j/\σ[j]?=some (some v):=by
 unfold qdu at h;by_cases a:i<nl
 .rw [yT (by rw[xA];show a),Xo] at h;split at h<;>cases h
 .rw [Yv (by rw[xA];lk),xA,yd] at h;show⟨by lk,?_⟩
  cases e:ixs[i-nl]? with
  | none=>rw[e] at h;cases h
  | some j =>
   rw[e] at h;have h':(σ[j]?).getD none=some v:=ym h
   cases q:σ[j]? with
   | none=>rw[q] at h';cases h'
   | some u =>
    rw[q] at h';show⟨j,rfl,by rw[q];show congrArg some h'⟩
noncomputable def qee(env:Env)(y:Str×NameKind):Str×NameKind:=if (y.2==NameKind.free&&env.scope.kind==.function&&env.kindOf y.1==some .cell)=true then(y.1,NameKind.cell) else(y.1,y.2)
theorem relF_fst(env:Env)(y:Str×NameKind):(qee env y).1=y.1:=by unfold qee;split<;>rfl
theorem relF_snd(env:Env)(y:Str×NameKind):(qee env y).2=y.2\/((qee env y).2=.cell/\y.2=.free):=by
 unfold qee;split
 .rename_i h
  rw[yX,yX] at h;show .inr ⟨rfl,yY.mp h.1.1⟩
 .show .inl rfl
theorem jZ:∀{names:List (Str×NameKind)} {x:Str} {k:NameKind},(names.map (qee env)).lookup x=some k->∃ b,names.lookup x=some b/\(x,b)∈names/\(k=b\/(k=.cell/\b=.free))
 | [],_,_,h=>by cases h
 | (n,k1)::r,x,k,h=>by
  rw[yJ,show qee env (n,k1)=((qee env (n,k1)).1,(qee env (n,k1)).2) from rfl,xt,relF_fst] at h;rw[xt]
  cases c:x==n with
  | true =>
   have e:x=n:=yY.mp c;subst e;have a:(x==(x,k1).1)=true:=c;rw[a] at h;have h':=ym h;show⟨k1,rfl,yy,?_⟩;rcases relF_snd env (x,k1) with z | ⟨z1,z2⟩
   .show .inl (h'.symm.trans z)
   .show .inr ⟨h'.symm.trans z1,z2⟩
  | false =>
   have a:(x==(n,k1).1)=false:=c;rw[a] at h;obtain⟨b,d,f,g⟩:=jZ h;show⟨b,d,yu _ f,g⟩
section
variable{X:Cx}{pins:List (Addr×Obj)}{σ:St}{H:Hp}{s:Shared}
theorem comp_free_of{cl:List (Str×Addr)}(h:(compEnvC scope cl C X.env).kindOf x=some .cell\/(compEnvC scope cl C X.env).kindOf x=some .free):(x,NameKind.cell)∈scope.names\/(x,NameKind.free)∈scope.names:=by
 rcases h with h | h
 .obtain⟨b,_,a,e | ⟨_,e⟩⟩:=jZ (env:=X.env) (names:=scope.names) h
  .rw [<- e] at a;show .inl a
  .rw [e] at a;show .inr a
 .obtain⟨b,_,a,e | ⟨e,_⟩⟩:=jZ (env:=X.env) (names:=scope.names) h
  .rw [<- e] at a;show .inr a
  .cases e
theorem Inv.comp{S:Obj}{h1:Heap}{tk:Nat}(I:Inv X pins σ H s)(O:CompOk X.env.scope scope)
  (hN:N.length=nl+ixs.length) (G:∀(k j:Nat) (x:Str),ixs[k]?=some j->N[nl+k]?=some x->X.N[j]?=some x/\(x,NameKind.free)∈scope.names)
  (M:∀ b∈fp,qdn X pins H b) (J:∀ b∈fp,b<s.heap.objs.size) (L:s.heap.objs.size<=C) (W:s.heap.objs.size<=D) (Y:D≠C) (ac:h1.Ns C fun _=>none) (k:∀ b o,s.heap.get? b=some o->h1.get? b=some o)
  (ad:h1.get? D=some S) (aa:∀ v,S.data≠.cell v) (B:CellsOk h1 (C+1) (cellsFrom (C+1) scope.names [])):Inv (X.comp N scope C s H fp) [(D,S)] (qdu nl ixs σ) H { s with heap:=h1,toks:=tk }:=by
 have a:∀ x c,(qB X.env scope.names []).lookup x=some c->X.env.cells.lookup x=some c/\(x,NameKind.free)∈scope.names:=fun x c h=>by
  rcases zm h with⟨h1,K⟩ | h1
  .obtain⟨F,l⟩:=I.ok.has x (by
    rcases O.free _ h1 rfl with z | z
    .show .inl z
    .show .inr z)
   rw[l] at K;show⟨by rw[l,K];rfl,h1⟩
  .cases h1
 have big:∀ c:Addr,C+1<=c->s.heap.objs.size<=c:=fun c h=>yi L (Nat.le_of_succ_le h);have R:∀{P:Prop} {c:Addr},C+1<=c->c<s.heap.objs.size->P:=fun h g=>absurd (yj g (big _ h)) (Yd _)
 have all:∀ x c,(cellsFrom (C+1) scope.names (qB X.env scope.names [])).lookup x=some c->((x,c)∈cellsFrom (C+1) scope.names []/\C+1<=c/\h1.IsCell c none)\/(X.env.cells.lookup x=some c/\c<s.heap.objs.size):=fun x c h=>by
  rcases qaV h with z | z
  .show .inl ⟨z,(B.empty _ _ z).2,(B.empty _ _ z).1⟩
  .obtain⟨_,q⟩:=I.cell x c (a x c z).1;show .inr ⟨(a x c z).1,q.lt⟩
 show⟨⟨I.ok.mod,O.kind,I.ok.glob,I.ok.blt,L,fun x y c h1 K=>?inj,fun x hx=>cells_some ((comp_free_of hx).imp id zn),fun x c z h=>?cab,I.ok.hd,I.ok.frames,.inl rfl,
   fun b hb=>⟨yN (yj (J b hb) L),fun x c e=>?exf⟩,I.bs,yi I.ok.bsz I.sz,fun b o e hb=>?_,fun b hb z=>?_,I.stack,I.stkFree⟩,
  rfl,I.bare,Un.kept k,⟨_,ac,fun i x v e1 e2 e3=>?_⟩,fun x c e=>?_,I.hok.fresh L,fun x c e=>?fre,fun p hp=>?_,I.hok.kept k,?_⟩
 case inj =>
  rcases all x c h1 with⟨r,f,_⟩ | ⟨r,f⟩<;>rcases all y c K with⟨T,U,_⟩ | ⟨T,U⟩
  .show name_of_addr B.apart r T
  .show R f U
  .show R U f
  .show I.ok.inj x y c r T
 case cab =>
  rcases all x c h with⟨_,f,_⟩ | ⟨r,f⟩
  .show big _ f
  .exfalso;obtain⟨d,E⟩:=qag (n:=C+1) (mem_of_lookup (yY.mp z));have h:(cellsFrom (C+1) scope.names (qB X.env scope.names [])).lookup x=some c:=h;rw[jf,xx,E] at h;cases h;show R (B.empty _ _ (mem_of_lookup E)).2 f
 case exf =>
  rcases all x c e with⟨_,f,_⟩ | ⟨r,_⟩
  .show fun z=>R f (by rw[z];show J b hb)
  .show(M b hb).2.2.2.2.1 x c r
 case fre =>
  rcases all x c e with⟨_,f,_⟩ | ⟨r,_⟩
  .show I.hok.fresh (big _ f)
  .show I.freeC x c r
 .rcases(M b hb).2.2.2.1 with z | z
  .show I.ok.noex b o e z
  .have:=(I.ok.bs b o e).1;show absurd (yj (yF this) z) (Yd _)
 .rcases yA.mp (I.stkSub b z) with e | e
  .show(M b hb).2.1 e
  .show(M b hb).2.2.1 e
 .obtain⟨hi,j,hj,hv⟩:=qcS e2;obtain⟨hx,t⟩:=G (i-nl) j x hj (by rw[Nat.add_sub_cancel' hi];show e1);obtain⟨m,hn,hl⟩:=I.loc;have B:=O.free _ t rfl
  obtain⟨u,ru,lk⟩:=hl j x v hx hv (by
   rcases B with z | z
   .show .inr (.inl z)
   .show .inr (.inr z))
  show⟨u,ru,?_⟩;rcases lk with⟨ab,_⟩ | ⟨_,c,hc,A⟩
  .have w:X.env.scope.names.lookup x=some .local:=ab;rcases B with z | z<;>· rw[z] at w;cases w
  .obtain⟨F,l⟩:=zn (env:=X.env) (acc:=[]) t
   have e:F=c:=by
    have:=(a x F l).1;rw[hc] at this;show(ym this).symm
   subst e
   have Z:(cellsFrom (C+1) scope.names (qB X.env scope.names [])).lookup x=some F:=by
    rw[jf,xx]
    cases q:(cellsFrom (C+1) scope.names []).lookup x with
    | none=>show l
    | some d=>have:=O.cel _ (qaU (mem_of_lookup q)) rfl;rw[O.once _ t rfl] at this;cases this
   show .inr ⟨?_,F,Z,?_⟩
   .rcases e3 with z | z | z
    .obtain⟨k0,z3,_,e | ⟨e,_⟩⟩:=jZ (env:=X.env) (names:=scope.names) z
     .rw [O.once _ t rfl] at z3;cases z3;cases e
     .cases e
    .show .inl z
    .show .inr z
   .obtain⟨o,ho,E⟩:=A;show⟨o,k _ _ ho,E⟩
 .rcases all x c e with⟨_,_,a3⟩ | ⟨r,_⟩
  .show⟨none,a3⟩
  .obtain⟨v,o,ho,E⟩:=I.cell x c r;show⟨v,o,k _ _ ho,E⟩
 .have e:p=(D,S):=by simpa using hp
  subst e;show⟨ad,I.hok.fresh W,Y,fun z=>?_,aa⟩;rcases yA.mp (I.stkSub D z) with e | e
  .show absurd (show X.env.locals<D from yj I.lt W) (by rw[e];show Yd _)
  .show I.nofs W e
 .show(qdu nl ixs σ).length=N.length;rw[capS_len,hN]
theorem Inv.compBack{s':Shared}{i:St}(I:Inv X pins σ H s)(g:∀ b∈fp,qdn X pins H b)(t:s.heap.objs.size<=C)(j:s.heap.objs.size<=D)
  (J:Inv (X.comp N scope C s H fp) [(D,{ cls:=.type "list",data:=.seq its.toArray n })] i H' s') (hv:Vals ys its) (m:ys.length<=sizeLine):Inv X pins σ (upd H' D (.lst ys)) s':=by
 obtain⟨r,f,p,_,_⟩:=J.pin (D,{ cls:=.type "list",data:=.seq its.toArray n }) (yM _ (yx.mpr rfl));have h:∀ b o,s.heap.get? b=some o->b≠D:=fun b o e=>yN (yj (yF e) j);have a:=J.base;show I.call' (ch:=fp) J.os ⟨a.keep,a.slot,fun b o e n l=>?_,a.there,fun b xs e=>?_,fun b o u e=>?_,fun b ps e=>?_⟩ (fun b u e=>?_) J.bare fun b hb=>⟨(g b hb).2.2.2.1,(g b hb).2.1,(g b hb).2.2.2.2.1,(g b hb).2.2.2.2.2⟩
 .rw [qh (h b o e)];show a.free b o e n l
 .have q:=a.tups b xs e;rw[qh (qC q f)];show q
 .have q:=a.frzs b o u e;rw[qh (qC q f)];show q
 .obtain⟨d,q⟩:=a.tbls b ps e;show⟨d,by rw[qh (qC q f)];show q⟩
 .by_cases hb:b=D
  .subst hb;rw[qc] at e;cases e;show⟨m,its,n,hv,r⟩
  .rw [qh hb] at e;show(J.hok b u e).stay (fun c v _ q=>q) (fun c q=>by rw[qh (qC q f)];show q) fun c xs q=>by rw[qh (qC q f)];show q
end
def qfJ:TT:=fun _ H Q=>Q true H
def qeY(wi:TI)(g:TG)(tc:TT)(te:TE)(nl:Nat)(ixs:LN):TE:=fun σ H Q=>wi σ H fun J e =>
 ∃ W:Nat->Nat->List V->Hp->Prop,(∃ m,W 0 m [] e)/\∀ i m ys H,W i m ys H ->
  (J.stop i H/\ys.length<=sizeLine/\∀ p,H p=none->Q (.ref p) (upd H p (.lst ys))) \/
  (J.go i H/\∃ M:List V->Hp->Prop,(∀ ys' H',M ys' H'->∃ d,d<m/\W (i+1) d ys' H')/\∀ x H',J.yld i H x H'->g x (qdu nl ixs σ) H' fun a f=>tc a f fun b c =>
   if b=true then te a c fun v h=>ys.length<sizeLine/\M (ys++[v]) h else M ys c)
def qef(nl:Nat)(g:TG):Prop:=∀ x σ H Q,g x σ H Q->g x σ H fun a b=>Q a b/\a.length=σ.length/\∀ i,nl<=i->a[i]?=σ[i]?
theorem jc{i:Nat}(h:i<nl:=by decide):qef nl (qbL i):=fun x σ H Q q=>⟨q,List.length_set ..,fun j a=>xZ (by lk)⟩
def qfm(X:Cx)(ifs:List Expr)(tc:TT):Prop:=
 ∀(pins:List (Addr×Obj)) (s:Shared) (σ:St) (H:Hp) (Q:Bool->Hp->Prop),Inv X pins σ H s->tc σ H Q ->
  wpAny (model X.prog X.w) X.A (forIn ifs true fun c r=>if r=true then do let ok <- isTrue c X.env (eval c X.env);pure (ForInStep.yield ok) else pure (ForInStep.yield r)) (TP X pins σ Q) X.xe s
theorem jv:qfm X [] qfJ:=fun pins s σ H Q I h=>wpAny_tests_nil ⟨H,I,h⟩
theorem qah{c:Expr}(h:PT X c tc):qfm X [c] tc:=fun pins s σ H Q I q=>wpAny_tests_one (h pins s σ H Q I q)
section
variable{X:Cx}{pins:List (Addr×Obj)}{σ:St}{H:Hp}{s:Shared}
theorem qbe{tn:Nat->Heap->Prop}{J:It}{pos:Pos}{Q:V->Hp->Prop}
  {RR:Value->Addr->Result->Shared->Prop} (I:Inv X pins σ H s) (hc:X.calm=true) (O:CompOk X.env.scope scope)
  (hN:N.length=nl+ixs.length) (ai:∀(k j:Nat) (x:Str),ixs[k]?=some j->N[nl+k]?=some x->X.N[j]?=some x/\(x,NameKind.free)∈scope.names)
  (T:Turn X.prog X.w X.K tg J fp it tn) (st:tn 0 s.heap) (hf:∀ b∈fp,qdn X pins H b)
  (hg:∀ C s0 H0 ex,PG (X.comp N scope C s0 H0 ex) tg g) (gk:qef nl g) (hi:∀ C s0 H0 ex,qfm (X.comp N scope C s0 H0 ex) ifs tc) (he:∀ C s0 H0 ex,PE (X.comp N scope C s0 H0 ex) elt te)
  (h:∃ W:Nat->Nat->List V->Hp->Prop,(∃ m,W 0 m [] H)/\∀ i m ys H,W i m ys H ->
   (J.stop i H/\ys.length<=sizeLine/\∀ p,H p=none->Q (.ref p) (upd H p (.lst ys))) \/
   (J.go i H/\∃ M:List V->Hp->Prop,(∀ ys' H',M ys' H'->∃ m',m'<m/\W (i+1) m' ys' H')/\∀ x H',J.yld i H x H'->g x (qdu nl ixs σ) H' fun ap a=>tc ap a fun b H3 =>
    if b=true then te ap H3 fun v H4=>ys.length<sizeLine/\M (ys++[v]) H4 else M ys H3))
  (aw:∀(D C:Addr) (s':Shared) (H':Hp) (R:St) (ys:List V) (its:List Value) (n:Nat),s.heap.objs.size<=C->s.heap.objs.size<=D->Inv (X.comp N scope C s H fp) [(D,{ cls:=.type "list",data:=.seq its.toArray n })] R H' s'->Vals ys its->ys.length<=sizeLine ->
   (∀ p,H' p=none->Q (.ref p) (upd H' p (.lst ys)))->RR (.ref D) C (.ok .next) s') :
  wpAny (model X.prog X.w) X.A (newList []) (fun acc s3=>wpAny (model X.prog X.w) X.A (newFunctionEnv scope X.env.globals (qB X.env scope.names []) [] X.env.qual none .none (some X.env)) (fun U s4 =>
   codeAny (model X.prog X.w) X.A (.compStart (.ListComp elt [⟨tg,iter,ifs,0⟩] scope pos) 0 (.ref it) acc { U with scope:=relabel scope X.env }) (RR acc U.locals) s4) E s3) E s:=by
 obtain⟨W,⟨m0,w0⟩,ao⟩:=h;show YI (newEnvK ?_);dsimp only;generalize ab:s.heap.push { cls:=.type "list",dict:=none,data:=.seq ([]:List Value).toArray }=a;have Z:(pushCells (a.push { cls:=.type "dict",data:=.dict #[] }) scope.names).Ns a.objs.size fun _=>none:=(Heap.Ns.new a (.type "dict")).keeps (pushCells_keeps _ _);have F:=cellsFrom_ok scope.names (a.push { cls:=.type "dict",data:=.dict #[] }) (a.objs.size+1) [] ⟨fun _ _ hm=>(nomatch hm),List.Pairwise.nil⟩ (by rw[YL];show yh _);rw[YL] at F;have ac:∀ b o,a.get? b=some o->(pushCells (a.push { cls:=.type "dict",data:=.dict #[] }) scope.names).get? b=some o:=fun b o e=>pushCells_keeps _ _ b o (yt _ e);generalize pushCells (a.push { cls:=.type "dict",data:=.dict #[] }) scope.names=h1 at Z F ac ⊢;have hC:a.objs.size=s.heap.objs.size+1:=by rw[<- ab,YL]
 have av:s.heap.objs.size≠a.objs.size:=by rw[hC];show yN (xI _)
 have Y:s.heap.objs.size<=a.objs.size:=by rw[hC];show xF _
 have f:∀ b,b<s.heap.objs.size->b≠a.objs.size/\b≠s.heap.objs.size:=fun b hb=>⟨by rw[hC];show yN (Xx hb),yN hb⟩;have ad:∀ b o,s.heap.get? b=some o->h1.get? b=some o:=fun b o e=>ac b o (ab ▸ yt _ e);have ag:h1.get? s.heap.objs.size=some { cls:=.type "list",data:=.seq ([]:List Value).toArray }:=ac _ _ (ab ▸ yK _ rfl)
 have B:∀ b∈fp,b<s.heap.objs.size:=fun b hb=>by
  obtain⟨o,ho,_⟩:=T.obj 0 _ st b hb;show yF ho
 have aa:∀ s3:Shared,s3={ s with heap:=h1 } ->
   codeAny (model X.prog X.w) X.A (.compLoop (.ListComp elt [⟨tg,iter,ifs,0⟩] scope pos) 0 (.ref it) (.ref s.heap.objs.size) (compEnvC scope (cellsFrom (a.objs.size+1) scope.names (qB X.env scope.names [])) a.objs.size X.env)) (RR (.ref s.heap.objs.size) a.objs.size) s3:=by
  rintro s3 rfl;have I0:=I.comp (N:=N) (C:=a.objs.size) (D:=s.heap.objs.size) (h1:=h1) (tk:=s.toks) O hN ai hf B Y (yh _) av Z ad ag (fun v z=>by cases z) F
  have t:∀{H':Hp} {R:St} {s':Shared} {pl:List (Addr×Obj)},Inv (X.comp N scope a.objs.size s H fp) pl R H' s'->(∀ p∈pl,p.1=s.heap.objs.size)->(∀ b∈fp,H' b=none)->∀ b∈fp,qdn (X.comp N scope a.objs.size s H fp) pl H' b:=fun{H' R s' pl} J ay hn b hb =>
   ⟨hn b hb,(f b (B b hb)).1,fun z=>(by
     rcases yA.mp (I.stkSub b z) with e | e
     .show(hf b hb).2.1 e
     .show(hf b hb).2.2.1 e),.inl hb,J.ok.exf b hb |>.2,fun p L z=>by
    have e:=ay p (by simpa using L);rw[e] at z;show(f b (B b hb)).2 z.symm⟩
  show compLoop_own (fun k s'=>∃ i H' ys its n,Inv (X.comp N scope a.objs.size s H fp) [(s.heap.objs.size,{ cls:=.type "list",data:=.seq its.toArray n })] (qdu nl ixs σ) H' s'/\tn i s'.heap/\(∀ b∈fp,H' b=none)/\Vals ys its/\W i k ys H') ?_ m0
   ⟨0,H,[],[],0,I0,T.keep _ _ _ st fun b _ o e=>ad b o e,fun b hb=>(hf b hb).1,.nil,w0⟩
  rintro k s' ⟨i,H',ys,its,n,J1,am,af,v1,w1⟩
  have one:∀ p∈[((s.heap.objs.size,{ cls:=.type "list",data:=.seq its.toArray n }):Addr×Obj)],p.1=s.heap.objs.size:=fun p L=>by
   have e:p=_:=yx.mp L;rw[e]
  rcases ao i k ys H' w1 with⟨an,hz,q⟩ | ⟨go,M,hM,step⟩
  .show thn (T.done (X.comp N scope a.objs.size s H fp) rfl rfl rfl hc i _ s' _ H' _ J1 (t J1 one af) am an) fun r s4 ⟨hr,J4⟩=>?_;subst hr;show aw _ _ s4 H' _ ys its n Y (yh _) J4 v1 hz q
  .show thn (T.item (X.comp N scope a.objs.size s H fp) rfl rfl rfl hc i _ s' _ H' _ J1 (t J1 one af) am go) fun r s4 ⟨u,hr,h4⟩=>?_;subst hr;show thn h4 fun _ s5 ⟨x,H5,J5,r5,y5,ae,ar⟩=>?_;have aq:=J5.pinned (t J5 one ar) (T.obj _ _ ae);show thn (hg _ _ _ _ _ s5 _ H5 x u _ aq r5 (gk _ _ _ _ (step x H5 y5))) fun _ s6 ⟨S,H6,J6,q6,l6,k6⟩=>?_;show thn (hi _ _ _ _ _ s6 S H6 _ J6 q6) fun ok s7 ⟨H7,J7,q7⟩=>?_;have l:∀{P:Shared} {H8:Hp} {ys':List V} {k':Nat},Inv (X.comp N scope a.objs.size s H fp) ([((s.heap.objs.size,{ cls:=.type "list",data:=.seq its.toArray n }):Addr×Obj)]++qbN fp s5.heap) S H8 P ->
     (∀ b o,b≠s.heap.objs.size->P.heap.get? b=some o->P.heap.get? b=some o)->tn (i+1) P.heap/\∀ b∈fp,H8 b=none:=fun{P H8 ys' k'} J8 _=>by
    show⟨T.keep _ _ _ ae fun b hb o e=>(J8.pin (b,o) (yM _ (yM _ (zJ hb e)))).1,fun b hb=>?_⟩;obtain⟨o,e,d⟩:=T.obj _ _ ae b hb;show(J8.pin (b,o) (yM _ (yM _ (zJ hb e)))).2.1
   have wk:∀(j:Nat) v,(qdu nl ixs σ)[j]?=some (some v)->S[j]?=some (some v):=fun j v e=>by
    obtain⟨hj,_⟩:=qcS e;rw[k6 j hj];show e
   cases ok with
   | false =>
    rw[yB Yh] at q7 ⊢;obtain⟨m',hm,w7⟩:=hM _ _ q7;obtain⟨ba,as⟩:=l (ys':=ys) (k':=0) J7 (fun _ _ _ e=>e);show⟨m',hm,i+1,H7,ys,its,n,J7.unpinned.weak l6.symm wk,ba,as,v1,w7⟩
   | true =>
    rw[yG rfl] at q7 ⊢;show thn (he _ _ _ _ _ s7 S H7 _ J7 q7) fun y P ⟨v,H8,J8,r8,bc,mq⟩=>?_;obtain⟨m',hm,w8⟩:=hM _ _ mq;obtain⟨bb,au⟩:=l (ys':=ys) (k':=0) J8 (fun _ _ _ e=>e);have J9:=J8.unpinned;obtain⟨pD,nD,al,az,_⟩:=J9.pin (s.heap.objs.size,{ cls:=.type "list",data:=.seq its.toArray n }) (yM _ (yx.mpr rfl));show wpAny_list_append_plain (hsz:=by rw[yw,<- v1.length];lk) ⟨n,pD⟩ fun h9 G ak=>?_;obtain⟨n9,G⟩:=G;have e9:(its.toArray.push y)=(its++[y]).toArray:=by simp
    rw[e9] at G
    have Ja:Inv (X.comp N scope a.objs.size s H fp) [] (qdu nl ixs σ) H8 { P with heap:=h9,toks:=P.toks }:=
     ((J9.pins_of (pins':=[]) fun p L=>absurd L (by simp)).turned (it:=s.heap.objs.size) (h':=h9) (t':=P.toks) (fun b o hb e=>(ak.2 b hb).trans e) nD al (.inr (yh _))
      (fun x c e z=>by
       rcases qaV e with w | e
       .have:=(F.empty _ _ w).2;rw[z,hC] at this;show absurd (yi (xF _) this) (Nat.not_succ_le_self _)
       have:=zm e;rcases this with⟨ax,hcc⟩ | hcc
       .obtain⟨c',ah⟩:=I.ok.has x (by
         rcases O.free _ ax rfl with q | q
         .show .inl q
         .show .inr q)
        rw[ah] at hcc;have aj:c=c':=hcc;obtain⟨_,q⟩:=I.cell x c' ah;rw[<- aj,z] at q;show absurd q.lt (Yd _)
       .cases hcc) (fun p L=>absurd L (by simp))).weak l6.symm wk
    show⟨m',hm,i+1,H8,ys++[v],its++[y],n9,Ja.pins_of fun p L=>?_,?_,au,v1.append (.cons r8 .nil),w8⟩
    .have e:p=_:=yx.mp L;subst e;show⟨G,nD,al,az,fun v z=>by cases z⟩
    .show T.keep _ _ _ bb fun b hb o e=>(ak.2 b (f b (B b hb)).2).trans e
 show codeAny_compStart_list (aa _ rfl) (T.self _ 0 _ _ _ (T.keep _ _ _ st fun b _ o e=>ad b o e) (aa _ rfl))
end
section
variable{X:Cx}{tg elt iter:Expr}{ifs:List Expr}{scope:Scope}{pos:Pos}{N:LS}{nl:Nat}{ixs:LN}{wi:TI}{g:TG}{tc:TT}{te:TE}
theorem j7{XN:LS}(N:LS)(nl:Nat)(ixs:LN)(G:X.env.scope=sc)(y:X.N=XN)(hc:X.calm=true)(P:qed sc scope=true)(W:N.length=nl+ixs.length)(d:qfI nl ixs N XN scope.names=true)
  (hi:PI X tg iter wi) (hg:∀ C t i j,PG (X.comp N scope C t i j) tg g) (R:qef nl g) (ht:∀ C t i j,qfm (X.comp N scope C t i j) ifs tc) (Z:∀ C t i j,PE (X.comp N scope C t i j) elt te)
  (hs:∀ x,foldedSetIterable iter X.env x=pure x:=by intro _;rfl):PE X (.ListComp elt [⟨tg,iter,ifs,0⟩] scope pos) (qeY wi g tc te nl ixs):=by
 intro pins s σ H Q I h;subst G y;have O:=qcR P;have r:=qdI d;rw[eval_ListComp]
 have E:=qaf (scope:=scope) (env:=X.env) fun n F=>I.ok.has n (by
  rcases O.free _ F rfl with z | z
  .show .inl z
  .show .inr z)
 show wpAny_comprehension_free (use:=none) rfl hs E O.kind O.loc (thn (hi pins s σ H _ I h) fun v s1 h1=>thn h1 fun aa s2 S=>?_);obtain⟨it,fp,tn,J,H2,e,f,T,L,M,Y⟩:=S;subst e;show qbe (Q:=Q) (RR:=fun acc C=>compPost (model X.prog X.w) X.A X.xe none (EP X pins σ Q) acc C) f hc O W r T L M hg R ht Z Y ?_;intro D C s' H' ab ys its n l U u hv hz q;obtain⟨m,F,_⟩:=id u.loc;have B:=f.compBack M l U u hv hz;obtain⟨_,nD,K,_,_⟩:=u.pin (D,{ cls:=.type "list",data:=.seq its.toArray n }) (yM _ (yx.mpr rfl));show⟨m,F,fun h' sb=>⟨.ref D,_,?_,rfl,q D nD⟩⟩;show B.turned (it:=C) (h':=h') (t':=s'.toks) (fun b o hb e=>(sb.2 b hb).trans e) ((qh (H:=H') (a:=D) (b:=C) (o:=.lst ys) (Yq K)).trans u.free) (Xa (yj f.lt l)) (.inr (yi f.sz l)) (fun x c e z=>?_) (fun p hp z=>?_)
 .obtain⟨_,q⟩:=f.cell x c e;show absurd (yj q.lt (by rw[z];show l)) (Yd _)
 .show absurd (yj (yF (f.pin p hp).1) (by rw[z];show l)) (Yd _)
theorem qaz{i:Nat}{y:Str}{r f:Pos}{XN:LS}(N:LS)(nl:Nat)(ixs:LN)(Y:X.env.scope=sc)(E:X.N=XN)(hc:X.calm=true)(O':qed sc scope=true)(hN:N.length=nl+ixs.length)(l:qfI nl ixs N XN scope.names=true)
  (P:X.N.Nodup) (S:X.N[i]?=some y) (hy:X.env.scope.names.lookup y=some .local)
  (hi:PI X tg iter wi) (hg:∀ C G t u,PG (X.comp N scope C G t u) tg g) (gk:qef nl g) (ht:∀ C G t u,qfm (X.comp N scope C G t u) ifs tc) (he:∀ C G t u,PE (X.comp N scope C G t u) elt te)
  (Z:swapsWith (.ListComp elt [⟨tg,iter,ifs,0⟩] scope pos) (some (.Name y r)) f.line X.env=pure true:=by rfl)
  (hs:∀ x,foldedSetIterable iter X.env x=pure x:=by intro _;rfl):PS X (.Assign [.Name y r] (.ListComp elt [⟨tg,iter,ifs,0⟩] scope pos) f) (qe6 (qeY wi g tc te nl ixs) (qbL i)):=by
 intro pins s σ H L I h;subst Y E;have O:=qcR O';have F:=qdI l
 have R:=qaf (scope:=scope) (env:=X.env) fun n U=>I.ok.has n (by
  rcases O.free _ U rfl with z | z
  .show .inl z
  .show .inr z)
 rw[exec_Assign_Name_used _ _ _ _ Z];show yr (xT (yr ?_));show wpAny _ X.A (do let _ <- comprehension (.ListComp elt [⟨tg,iter,ifs,0⟩] scope pos) scope X.env _ (newList []) false (eval iter X.env) (some (assign (.Name y r) X.env))) _ _ s;show yr (Ym (wpAny_comprehension_free (use:=some (assign (.Name y r) X.env)) (Q:=fun _ s'=>SP X pins L .next s') rfl hs R O.kind O.loc
  (thn (hi pins s σ H _ I h) fun v s1 h1=>thn h1 fun ad s2 h2=>?_)) (fun _ s' hq=>yv (yv hq)) fun _ _ e=>e)
 obtain⟨it,fp,tn,J,H2,e,d,T,ac,f2,hW⟩:=h2;subst e;show qbe (Q:=fun v H'=>qbL i v σ H' L.nx) (RR:=fun acc C=>compPost (model X.prog X.w) X.A X.xe (some (assign (.Name y r) X.env)) (fun _ s'=>SP X pins L .next s') acc C) d hc O hN F T ac f2 hg gk ht he hW ?_;intro D C s' H' ae ys its n j hD K hv hz q;obtain⟨m,U,_⟩:=id K.loc;have B:=d.compBack f2 j hD K hv hz;obtain⟨_,nD,aa,_,_⟩:=K.pin (D,{ cls:=.type "list",data:=.seq its.toArray n }) (yM _ (yx.mpr rfl));show wpAny _ X.A (assign (.Name y r) X.env (.ref D)) _ _ _;show wpAny_assign_Name (qbK (i:=i) (x:=y) (v:=.ref D) B P S (.inl hy) rfl (fun ab B' W=>?_) (.inr hy));obtain⟨a,sa,ha⟩:=W
 have M:C≠a:=by
  rintro rfl;rcases ha with z | z
  .show absurd (show X.env.locals<C from yj d.lt j) (by rw[z];show Yd _)
  .obtain⟨_,q⟩:=d.cell y C z;show absurd (yj q.lt j) (Yd _)
 show⟨m,U.sameBut sa M,fun h' sb=>⟨_,_,?_,q D nD⟩⟩;show B'.turned (it:=C) (h':=h') (t':=ab.toks) (fun b o hb e=>(sb.2 b hb).trans e) ((qh (H:=H') (a:=D) (b:=C) (o:=.lst ys) (Yq aa)).trans K.free) (Xa (yj d.lt j)) (.inr (yi d.sz j)) (fun x c e z=>?_) (fun p hp z=>?_)
 .obtain⟨_,q⟩:=d.cell x c e;show absurd (yj q.lt (by rw[z];show j)) (Yd _)
 .show absurd (yj (yF (d.pin p hp).1) (by rw[z];show j)) (Yd _)
end
noncomputable def Its(x:Str):It:=⟨fun i _=>i<x.cps.size,fun i H v H'=>H'=H/\∃ c,x.cps[i]?=some c/\v=.str ⟨#[c]⟩,fun i _=>i=x.cps.size⟩
theorem qcT{K:yg}{t:Tok}(W:∀ A:Around,A.handled=none->Walks P w A it [it] [it] x.cps.size (SignAt x) fun i h=>h.IsStrIter it T x t i)
  (J:∀(A:Around) (i:Nat) (s:Shared) (Q:Value->Shared->Prop) (E:Value->Shared->Prop),s.heap.IsStrIter it T x t i->Q (.ref it) s->wpAny (model P w) A (pyIter (.ref it)) Q E s)
  (B:∀ v,letOwnedTupleGo tg (.ref it) v=pure ()):Turn P w K tg (Its x) [it] it (fun i h=>h.IsStrIter it T x t i) where
 mem:=by simp
 obj:=fun i h st b hb=>by
  have e:b=it:=by simpa using hb
  subst e;obtain⟨o,e,c,d⟩:=st;show⟨o,e,fun v z=>by rw[d] at z;cases z⟩
 keep:=fun i h h' st k=>by
  obtain⟨o,e,r⟩:=st;show⟨o,k it (by simp) o e,r⟩
 item:=by
  intro X p hw n hc i pins s σ H E I a st y;subst p hw n;obtain⟨f,g,G,j,l,m⟩:=a it (by simp);show(W X.A (I.ok.hd hc)).item i s _ _ y st fun v h' tk hv D C=>?_;obtain⟨c,u,q,rfl⟩:=hv;have F:Inv X pins σ H { s with heap:=h',toks:=tk }:=I.turned (fun b o hb e=>C b o (by simpa using hb) e) f g j l m;show⟨_,rfl,YY (B _) ⟨.str ⟨#[c]⟩,H,F,⟨u,rfl⟩,⟨rfl,c,q,rfl⟩,D,fun b hb=>(a b hb).1⟩⟩
 done:=by
  intro X p hw n hc i pins s σ H E I a st y;subst p hw n;obtain⟨f,g,G,j,l,m⟩:=a it (by simp);have e:i=x.cps.size:=y;subst e;show(W X.A (I.ok.hd hc)).done s _ _ st fun h' tk C=>⟨rfl,I.turned (fun b o hb e=>C b o (by simpa using hb) e) f g j l m⟩
 self:=J
section
variable{X:Cx}{tg:Expr}
end
section
variable{K:yg}{a:Addr}{xs:List V}{g:TG}{tc:TT}{te:TE}{σ':St}{H1:Hp}{Q:V->Hp->Prop}
def qdJ(J:It)(g:TG)(tc:TT)(te:TE)(σ':St)(H1:Hp)(Q:V->Hp->Prop):Prop:=
 ∃ W:Nat->Nat->List V->Hp->Prop,(∃ m,W 0 m [] H1)/\∀ i m ys H,W i m ys H ->
   (J.stop i H/\ys.length<=sizeLine/\∀ p,H p=none->Q (.ref p) (upd H p (.lst ys))) \/
   (J.go i H/\∃ M:List V->Hp->Prop,(∀ ys' H',M ys' H'->∃ d,d<m/\W (i+1) d ys' H')/\∀ x H',J.yld i H x H'->g x σ' H' fun a e=>tc a e fun b c =>
    if b=true then te a c fun v f=>ys.length<sizeLine/\M (ys++[v]) f else M ys c)
theorem jJ(c:Nat->List V->Hp->Prop)(n:c 0 [] H1)(hl:∀ i ys H,i<=xs.length->c i ys H->SqL K H a xs)
  (s:∀ i x ys H,xs[i]?=some x->c i ys H->g x σ' H fun f j=>tc f j fun b h=>if b=true then te f h fun v l=>ys.length<sizeLine/\c (i+1) (ys++[v]) l else c (i+1) ys h)
  (o:∀ ys H,c xs.length ys H->ys.length<=sizeLine/\∀ p,H p=none->Q (.ref p) (upd H p (.lst ys))):qdJ (Itl K a) g tc te σ' H1 Q:=by
 show⟨fun i m ys H=>m=xs.length-i/\i<=xs.length/\c i ys H,⟨xs.length,by simp,yU _,n⟩,?_⟩;rintro i m ys H ⟨rfl,r,p⟩;have q:=hl i ys H r p;by_cases d:i<xs.length
 .show .inr ⟨⟨xs,xs[i],q,by simp[d]⟩,c (i+1),fun ys' H' t=>⟨xs.length-(i+1),by lk,rfl,d,t⟩,fun x H' y=>?_⟩;obtain⟨e,y⟩:=y;subst e;show s i x ys _ (y xs q) p
 .have e:i=xs.length:=by lk
  subst e;show .inl ⟨⟨xs,q,yh _⟩,o ys H p⟩
theorem zc{lo:Int}(a:Nat->List V->Hp->Prop)(l:a 0 [] H1)
  (q:∀ i ys H,i<n->a i ys H->g (.int (lo+i)) σ' H fun d h=>tc d h fun b f=>if b=true then te d f fun v j=>ys.length<sizeLine/\a (i+1) (ys++[v]) j else a (i+1) ys f)
  (o:∀ ys H,a n ys H->ys.length<=sizeLine/\∀ p,H p=none->Q (.ref p) (upd H p (.lst ys))):qdJ (Itr lo n) g tc te σ' H1 Q:=by
 show⟨fun i m ys H=>m=n-i/\i<=n/\a i ys H,⟨n,by simp,yU _,l⟩,?_⟩;rintro i m ys H ⟨rfl,s,p⟩;by_cases c:i<n
 .show .inr ⟨c,a (i+1),fun ys' H' r=>⟨n-(i+1),by lk,rfl,c,r⟩,fun x H' y=>?_⟩;obtain⟨e,y⟩:=y;subst e y;show q i ys _ c p
 .have e:i=n:=by lk
  subst e;show .inl ⟨yh _,o ys H p⟩
theorem qcU(a:Nat->List V->Hp->Prop)(n:a 0 [] H1)
  (q:∀ i c ys H,x.cps[i]?=some c->a i ys H->g (.str ⟨#[c]⟩) σ' H fun f j=>tc f j fun b h=>if b=true then te f h fun v l=>ys.length<sizeLine/\a (i+1) (ys++[v]) l else a (i+1) ys h)
  (o:∀ ys H,a x.cps.size ys H->ys.length<=sizeLine/\∀ p,H p=none->Q (.ref p) (upd H p (.lst ys))):qdJ (Its x) g tc te σ' H1 Q:=by
 show⟨fun i m ys H=>m=x.cps.size-i/\i<=x.cps.size/\a i ys H,⟨x.cps.size,by simp,yU _,n⟩,?_⟩;rintro i m ys H ⟨rfl,s,p⟩;by_cases d:i<x.cps.size
 .show .inr ⟨d,a (i+1),fun ys' H' r=>⟨x.cps.size-(i+1),by lk,rfl,d,r⟩,fun v H' y=>?_⟩;obtain⟨e,c,hc,y⟩:=y;subst e y;show q i c ys _ hc p
 .have e:i=x.cps.size:=by lk
  subst e;show .inl ⟨rfl,o ys H p⟩
end
noncomputable def qb0:V->Option Value
 | .ty n=>some (.type n)
 | .ref a=>some (.ref a)
 | _=>none
theorem qbf{c:Value}(h:qb0 y=some c)(r:RelV y u):u=c:=by
 cases y with
 | ty n=>cases h;show r
 | ref a=>cases h;show r
 | _=>cases h
section
variable{X:Cx}{pins:List (Addr×Obj)}{σ:St}{H:Hp}{s:Shared}
theorem TyOf.kit{x:V}(I:Inv X pins σ H s)(b:RelV x u)(ty:TyOf X.K H x t):∃ P:Heap->Prop,PySem.W.KitX X.K u t P/\P s.heap/\u≠.builtin "__main__.__loader__#opaque":=by
 cases ty with
 | non=>cases (show u=Value.none from b);show⟨_,PySem.W.kitx_none,YK,(fun z=>nomatch z)⟩
 | bl y=>cases (show u=Value.bool y from b);show⟨_,PySem.W.kitx_bool,YK,(fun z=>nomatch z)⟩
 | int i=>obtain⟨t,q⟩:=(show ∃ t,u=Value.int i t from b);cases q;show⟨_,PySem.W.kitx_int,YK,(fun z=>nomatch z)⟩
 | str y=>obtain⟨t,q⟩:=(show ∃ t,u=Value.str y t from b);cases q;show⟨_,PySem.W.kitx_str,YK,(fun z=>nomatch z)⟩
 | flt y=>obtain⟨t,q⟩:=(show ∃ t,u=Value.float y t from b);cases q;show⟨_,PySem.W.kitx_float,YK,(fun z=>nomatch z)⟩
 | @lst a xs ea =>
  cases (show u=Value.ref a from b);obtain⟨_,_,n,_,h1⟩:=(show ObjOk X.prog X.w H s.heap a (.lst xs) from I.hok a _ ea);show⟨_,PySem.W.kitx_list,⟨_,h1,rfl⟩,(fun z=>nomatch z)⟩
 | @frz a ob xs ea =>
  cases (show u=Value.ref a from b);obtain⟨_,_,_,n,_,h1⟩:=(show ObjOk X.prog X.w H s.heap a (.frz ob (.lst xs)) from I.hok a _ ea);show⟨_,PySem.W.kitx_list,⟨_,h1,rfl⟩,(fun z=>nomatch z)⟩
 | @tup a xs ea =>
  cases (show u=Value.ref a from b);obtain⟨_,_,_,p⟩:=(show ObjOk X.prog X.w H s.heap a (.tup xs) from I.hok a _ ea);obtain⟨o,h1,c,_⟩:=p;show⟨_,PySem.W.kitx_tuple,⟨o,h1,c⟩,(fun z=>nomatch z)⟩
 | @dK a kvs ea =>
  cases (show u=Value.ref a from b);obtain⟨_,_,vs,_,p⟩:=(show ObjOk X.prog X.w H s.heap a (.dK kvs) from I.hok a _ ea);obtain⟨o,es,ep,h1,c,_⟩:=p;show⟨_,PySem.W.kitx_dict,⟨o,h1,c.1⟩,(fun z=>nomatch z)⟩
 | @dT a kvs ea =>
  cases (show u=Value.ref a from b);obtain⟨_,_,xs,_,o,es,ep,h1,c,_⟩:=(show ObjOk X.prog X.w H s.heap a (.dT kvs) from I.hok a _ ea);show⟨_,PySem.W.kitx_dict,⟨o,h1,c.1⟩,(fun z=>nomatch z)⟩
 | @ins a C dx fs ea cl ha hn htk hm =>
  cases (show u=Value.ref a from b);obtain⟨d,O,_⟩:=qax I.hok ea;obtain⟨od,J,_⟩:=O.look;show⟨_,PySem.W.kitx_own (cl.get _) cl.hd ha hn htk hm,J,(fun z=>nomatch z)⟩
end
section
variable{X:Cx}
theorem qaW:∀{ys:List V} {a us:List Value},ys.map qb0=a.map some->Vals ys us->us=a
 | [],[],_,_,.nil=>rfl
 | [],_::_,_,h,_=>by cases h
 | y::ys,[],_,h,_=>by cases h
 | y::ys,c::a,_,h,.cons r t=>by
  rw[yJ,yJ] at h
  injection h with h1 h2
  rw[qbf h1 r,qaW h2 t]
theorem qcV:∀{bs:List Bool} {us:List Value},Vals (bs.map V.bl) us->us=bs.map Value.bool
 | [],_,.nil=>rfl
 | b::bs,_,.cons r t=>by
  have e:=qcV t;rw[e];cases r;rfl
def qf2(K:yg):List V->Hp->VK->Prop:=fun xs H Q=>∃(p:Addr) (bs:List Bool),xs=[.ref p]/\SqL K H p (bs.map V.bl)/\Q (.bl (bs.all id)) H
theorem call_all(hc:X.calm=true):jX X (.builtin "all") (qf2 X.K):=by
 intro pins s σ H xs us Q I r h;obtain⟨p,bs,rfl,t,q⟩:=h;obtain⟨u,rfl,x⟩:=qaa r;cases x;obtain⟨its,y,pl,z⟩:=I.list t;have e:=qcV y;subst e;have l:X.A.in1.handled=none:=I.ok.hd hc;show call_all_walk (Xy pl.isList ?_)
 have f:p≠s.heap.objs.size:=by
  obtain⟨o,n,_⟩:=pl.isList;show yN (yF n)
 show⟨s.heap.objs.size,_,_,_,_,_,fun i=>(bs[i]?).getD false,rfl,Walks.list l s.heap.objs.size p f (bs.map Value.bool).toArray,⟨⟨_,yK _ rfl,rfl,rfl⟩,pl.isList.at fun o e=>yt _ e⟩,fun i v s Q E hv w=>?_,fun h' tk m=>?_⟩
 .have a:(bs.map Value.bool)[i]?=some v:=by simpa using hv
  rw[yd] at a
  cases e:bs[i]? with
  | none=>rw[e] at a;cases a
  | some b =>
   rw[e] at a;cases a;have c:Q ((bs[i]?).getD false) s:=w;rw[e] at c;show yv c
 .have e:((List.range (bs.map Value.bool).toArray.size).all fun i=>(bs[i]?).getD false)=bs.all id:=by
   rw[yw,ya]
   have g:∀ bs:List Bool,((List.range bs.length).all fun i=>(bs[i]?).getD false)=bs.all id:=by
    intro bs
    induction bs with
    | nil=>rfl
    | cons b r ih =>
     rw[yC,List.range_succ_eq_map,ku,kK,ku,<- ih];rfl
   show g bs
  rw[e];show⟨.bl _,H,?_,rfl,q⟩;have j:Inv X pins σ H { s with heap:=s.heap.push { cls:=.type "list_iterator",data:=.fields #[.ref p,.int 0 0] } }:=I.kept (t':=s.toks) fun b o e=>yt _ e;have d:=I.fpOk (b:=s.heap.objs.size) (yh _) (I.hok.fresh (yh _));show j.turned (it:=s.heap.objs.size) (h':=h') (t':=tk) (fun b o hb e=>m b o (by simpa using hb) e) d.1 d.2.1 d.2.2.2.1 d.2.2.2.2.1 d.2.2.2.2.2
theorem op_le_str:OpR X (compareOp .LtE) (fun x y H Q=>∃ i j,x=.str i/\y=.str j/\Q (.bl (!decide (j.cps.toList<i.cps.toList))) H):=by
 intro pins s σ H x y v u Q I a b h;obtain⟨i,j,rfl,rfl,q⟩:=h;obtain⟨t,rfl⟩:=a;obtain⟨t',rfl⟩:=b;show PySem.P.le_str (qdy I q (by rfl))
def qfK:R2:=fun x y H Q=>match x,y with
 | .int i,.int j=>Q (.bl (decide (i<=j))) H
 | .str i,.str j=>Q (.bl (!decide (j.cps.toList<i.cps.toList))) H
 | _,_=>False
theorem qes:OpR X (compareOp .LtE) qfK:=by
 intro pins s σ H x y v u Q I a b h
 cases x with
 | int i=>cases y with
  | int j=>show op_le pins s σ H _ _ v u Q I a b ⟨i,j,rfl,rfl,h⟩
  | _=>show False.elim h
 | str i=>cases y with
  | str j=>show op_le_str pins s σ H _ _ v u Q I a b ⟨i,j,rfl,rfl,h⟩
  | _=>show False.elim h
 | _=>show False.elim h
theorem op_is_bl:OpR X (compareOp .Is) (fun x y H Q=>∃ i j,x=.bl i/\y=.bl j/\Q (.bl (i==j)) H):=by
 intro pins s σ H x y v u Q I a b h;obtain⟨i,j,rfl,rfl,q⟩:=h;cases a;cases b;show wpAny_is_plain (by cases i<;>cases j<;>rfl) (qdy I q (by cases i<;>cases j<;>rfl))
def qfL:R2:=fun x y H Q=>match x,y with
 | .bl i,.bl j=>Q (.bl (i==j)) H
 | x,.non=>Q (.bl (decide (x=.non))) H
 | _,_=>False
theorem u_is:OpR X (compareOp .Is) qfL:=by
 intro pins s σ H x y v u Q I a b h
 cases y with
 | non=>show op_isN pins s σ H x _ v u Q I a b ⟨rfl,by cases x<;>show h⟩
 | bl j=>cases x with
  | bl i=>show op_is_bl pins s σ H _ _ v u Q I a b ⟨i,j,rfl,rfl,h⟩
  | _=>show False.elim h
 | _=>cases x<;>show False.elim h
theorem op_rep_str:OpR X (binaryOp .Mult) (fun x y H Q=>∃ z k,x=.str z/\y=.int k/\MulOk z k/\Q (.str (Txt.mul z k)) H):=by
 intro pins s σ H x y v u Q I b c h;obtain⟨z,k,rfl,rfl,a,q⟩:=h;obtain⟨t,rfl⟩:=b;obtain⟨t',rfl⟩:=c;show SB.mul a fun t' k'=>⟨.str _,H,I.tok _,⟨_,rfl⟩,q⟩
def qfn:R2:=fun x y H Q=>match x,y with
 | .int i,.int j=>CMul i j/\Q (.int (i*j)) H
 | .str z,.int k=>MulOk z k/\Q (.str (Txt.mul z k)) H
 | .ref a,.int k=>rRep (.ref a) (.int k) H Q
 | _,_=>False
theorem qb1:OpR X (binaryOp .Mult) qfn:=by
 intro pins s σ H x y v u Q I b c h
 cases y with
 | int j=>cases x with
  | int i=>show op_mul pins s σ H _ _ v u Q I b c ⟨i,j,rfl,rfl,h.1,h.2⟩
  | str i=>show op_rep_str pins s σ H _ _ v u Q I b c ⟨i,j,rfl,rfl,h.1,h.2⟩
  | ref a=>show qeq pins s σ H _ _ v u Q I b c h
  | _=>show False.elim h
 | _=>cases x<;>show False.elim h
def qeg(K:yg):R2:=fun x y H Q=>match x,y with
 | .int i,.int j=>Q (.int (i+j)) H
 | .str i,.str j=>i.length+j.length<=sizeLine/\Q (.str (i++j)) H
 | .ref a,.ref b=>rCat (.ref a) (.ref b) H Q\/rCatT K (.ref a) (.ref b) H Q
 | _,_=>False
theorem u_add:OpR X (binaryOp .Add) (qeg X.K):=by
 intro pins s σ H x y v u Q I c d h
 cases x with
 | int i=>cases y with
  | int j=>show op_add pins s σ H _ _ v u Q I c d ⟨i,j,rfl,rfl,h⟩
  | _=>show False.elim h
 | str i=>cases y with
  | str j=>show op_add_str pins s σ H _ _ v u Q I c d ⟨i,j,rfl,rfl,h.1,h.2⟩
  | _=>show False.elim h
 | ref a=>cases y with
  | ref b=>show h.elim (fun h=>op_cat pins s σ H _ _ v u Q I c d h) fun h=>op_catT pins s σ H _ _ v u Q I c d h
  | _=>show False.elim h
 | _=>show False.elim h
def qdq(K:yg):List V->Hp->VK->Prop:=fun xs H Q=>match xs with
 | [.str z]=>z.length<=sizeLine/\Q (.int z.length) H
 | [.ref p]=>(∃ ys,(SqL K H p ys\/SqT K H p ys)/\Q (.int ys.length) H)\/∃ kvs,H p=some (.dK kvs)/\Q (.int kvs.length) H
 | _=>False
theorem call_lenU:jX X (.builtin "len") (qdq X.K):=by
 intro pins s σ H xs us Q I r h
 match xs,h with
 | [.str z],h=>show call_len_str pins s σ H _ us Q I r ⟨z,rfl,h.1,h.2⟩
 | [.ref p],.inl ⟨ys,h,q⟩=>show call_len_seq pins s σ H _ us Q I r ⟨p,ys,rfl,h,q⟩
 | [.ref p],.inr ⟨kvs,h,q⟩=>show call_lenD pins s σ H _ us Q I r ⟨p,kvs,rfl,h,q⟩
theorem sl_str:SlR X (fun x lo c H Q=>∃ z,x=.str z/\z.length<=sizeLine/\Q (.str (Txt.slice z lo c)) H):=by
 intro pins s σ H x v g m lo c f Q I e a pl d h;obtain⟨z,rfl,b,q⟩:=h;obtain⟨t,rfl⟩:=e;show⟨"str",_,F.slot_str_getitem.lookup,typeIs_str _ _ _,?_⟩
 cases pl with
 | none =>
  cases d with
  | none=>show xL (l:=none) (u:=none) (st:=none) a rfl (XZ ⟨yi (kL z _ _) b,fun t' k=>⟨.str _,H,I.tok _,⟨_,rfl⟩,q⟩⟩)
  | int j uj=>show xL (l:=none) (u:=some (j,uj)) (st:=none) a rfl (XZ ⟨yi (kL z _ _) b,fun t' k=>⟨.str _,H,I.tok _,⟨_,rfl⟩,q⟩⟩)
 | int i ui =>
  cases d with
  | none=>show xL (l:=some (i,ui)) (u:=none) (st:=none) a rfl (XZ ⟨yi (kL z _ _) b,fun t' k=>⟨.str _,H,I.tok _,⟨_,rfl⟩,q⟩⟩)
  | int j uj=>show xL (l:=some (i,ui)) (u:=some (j,uj)) (st:=none) a rfl (XZ ⟨yi (kL z _ _) b,fun t' k=>⟨.str _,H,I.tok _,⟨_,rfl⟩,q⟩⟩)
def qfM(K:yg):V->Option Int->Option Int->Hp->VK->Prop:=fun x lo b H Q=>match x with
 | .str z=>z.length<=sizeLine/\Q (.str (Txt.slice z lo b)) H
 | .ref a=>rSlL K (.ref a) lo b H Q\/rSlT K (.ref a) lo b H Q
 | _=>False
theorem u_sl:SlR X (qfM X.K):=by
 intro pins s σ H x v g i lo b f Q I e c pl d h
 cases x with
 | str z=>show sl_str pins s σ H _ v g i lo b f Q I e c pl d ⟨z,rfl,h.1,h.2⟩
 | ref a=>show h.elim (fun h=>sl_list pins s σ H _ v g i lo b f Q I e c pl d h) fun h=>sl_tup pins s σ H _ v g i lo b f Q I e c pl d h
 | _=>show False.elim h
theorem qcs:∀{ys:LS} {us:List Value},Vals (ys.map V.str) us->StrsAre us ys
 | [],_,.nil=>.nil
 | y::ys,_,.cons r t=>by
  obtain⟨tk,rfl⟩:=r;show .cons y tk (qcs t)
def qfo(K:yg):V->List V->Hp->VK->Prop:=fun x vs H Q=>∃(z:Str) (p:Addr) (ys:LS),x=.str z/\vs=[.ref p]/\SqL K H p (ys.map V.str)/\(ys.map (·.length)).sum+ys.length*z.length<=16777216/\Q (.str (Txt.join z ys)) H
theorem mt_join:MtR X "str.join" (qfo X.K):=by
 intro pins s σ H x vs v us Q I e d h;obtain⟨z,p,ys,rfl,rfl,a,b,q⟩:=h;obtain⟨t,rfl⟩:=e;obtain⟨u,rfl,c⟩:=d.one;cases c;obtain⟨its,r,pl,_⟩:=I.list a;show join_list pl.isList (by simpa using qcs r) b fun t' k=>⟨.str _,H,I.tok _,⟨_,rfl⟩,q⟩
def qfN(K:yg)(te:TE):TI:=fun σ H R=>te σ H fun v b=>match v with
 | .str x=>R (Its x) b
 | .ref a=>((∃ xs,SqL K b a xs)/\R (Itl K a) b)\/((∃ xs,SqT K b a xs)/\R (Itt K a) b)
 | _=>False
theorem pi_any{e:Expr}(u:PE X e te)(g:∀ it v,letOwnedTupleGo tg it v=pure ():=by intro _ _;rfl):PI X tg e (qfN X.K te):=by
 intro pins s σ H R I h;show thn (u pins s σ H _ I h) fun v c ⟨y,f,d,r,j⟩=>?_
 cases y with
 | str x =>
  obtain⟨t,rfl⟩:=r
  have fp:∀ b∈[c.heap.objs.size],qdn X pins f b:=fun b hb=>by
   have e:b=c.heap.objs.size:=by simpa using hb
   subst e;show d.fpOk (yh _) (d.hok.fresh (yh _))
  cases n:x.cps.all (· < 128)
  .show wpAny_pyIter_wide n ⟨c.heap.objs.size,[c.heap.objs.size],_,_,f,rfl,d.kept (t':=c.toks) fun b o e=>yt _ e,
    qcT (T:="str_iterator") (fun A l=>Walks.strWide l _ x t) (fun A i s Q E st h=>wpAny_pyIter_striter_wide st h) (g _),⟨_,yK _ rfl,rfl,rfl⟩,fp,j⟩
  .show wpAny_pyIter_ascii n ⟨c.heap.objs.size,[c.heap.objs.size],_,_,f,rfl,d.kept (t':=c.toks) fun b o e=>yt _ e,
    qcT (T:="str_ascii_iterator") (fun A l=>Walks.strAscii l _ x t) (fun A i s Q E st h=>wpAny_pyIter_striter_ascii st h) (g _),⟨_,yK _ rfl,rfl,rfl⟩,fp,j⟩
 | ref a =>
  cases r
  have fp:∀ b∈[c.heap.objs.size],qdn X pins f b:=fun b hb=>by
   have e:b=c.heap.objs.size:=by simpa using hb
   subst e;show d.fpOk (yh _) (d.hok.fresh (yh _))
  rcases j with⟨⟨xs,m⟩,q⟩ | ⟨⟨xs,m⟩,q⟩
  .obtain⟨its,z,p,w⟩:=d.list m;show Xy p.isList ⟨c.heap.objs.size,[c.heap.objs.size],_,_,f,rfl,d.kept (t':=c.toks) fun b o e=>yt _ e,qbM a _,⟨_,yK _ rfl,rfl,rfl⟩,fp,q⟩
  .obtain⟨its,z,p,w⟩:=d.tuple m;show wpAny_pyIter_tuple (show c.heap.IsTuple a its.toArray from p) ⟨c.heap.objs.size,[c.heap.objs.size],_,_,f,rfl,d.kept (t':=c.toks) fun b o e=>yt _ e,qba a _,⟨_,yK _ rfl,rfl,rfl⟩,fp,q⟩
 | _=>show False.elim j
end
section
variable{D:Ends}{σ:St}{H:Hp}{Q:VK}{QT:Bool->Hp->Prop}{QA:List V->Hp->Prop}{t u:TS}{te ta tb tc:TE}{c c':TT}{tr tas:TA}{r r':R2}{K:yg}
theorem vSeq(h:t { D with nx:=u D } σ H):qfT t u D σ H:=h
theorem vAsg{i:Nat}(h:te σ H fun x a=>D.nx (σ.set i (some x)) a):qe6 te (qbL i) D σ H:=h
theorem vAsgS{b a:TE}{s:qff}(h:te σ H fun x c=>b σ c fun o d=>a σ d fun i e=>s o i x e fun f=>D.nx σ f):qe6 te (qfW b a s) D σ H:=h
theorem vIfS(h:c σ H fun b a=>if b=true then t D σ a else u D σ a):qfV c t u D σ H:=h
theorem vRet(h:te σ H D.rt):qfU te D σ H:=h
theorem vRetN(h:D.rt .non H):tRetN D σ H:=h
theorem vDrop(h:te σ H fun _ a=>D.nx σ a):qfe te D σ H:=h
theorem vNext(h:D.nx σ H):qfd D σ H:=h
theorem vC(h:Q v H):tC v σ H Q:=h
theorem vVar{i:Nat}(e:σ[i]?=some (some v))(h:Q v H):qfa i σ H Q:=⟨v,e,h⟩
theorem vOp(h:ta σ H fun x a=>tb σ a fun y b=>r x y b Q):tOp r ta tb σ H Q:=h
theorem vUn{f:V->Hp->VK->Prop}(h:ta σ H fun x a=>f x a Q):tUn f ta σ H Q:=h
theorem vChain(h:ta σ H fun x b=>tb σ b fun y c=>r x y c fun z a=>∃ k,z=.bl k/\if k=true then tc σ a fun e d=>r' y e d Q else Q (.bl false) a):qdA r r' ta tb tc σ H Q:=h
theorem vNil(h:QA [] H):qfi σ H QA:=h
theorem vCons(h:ta σ H fun x a=>tr σ a fun xs b=>QA (x::xs) b):qeb ta tr σ H QA:=h
theorem vCB{f:List V->Hp->VK->Prop}(h:tas σ H fun vs a=>f vs a Q):tCB f tas σ H Q:=h
theorem vCall{E:XK}(h:tas σ H fun vs a=>sp (vs++[]) a Q E):qco sp [] E tas σ H Q:=h
theorem vLst(h:tas σ H fun xs a=>NewL xs a Q):qf1 tas σ H Q:=h
theorem vTup(h:tas σ H fun xs a=>NewT xs a Q):qf0 tas σ H Q:=h
theorem vTest(h:te σ H fun x H'=>∃ k,x=.bl k/\QT k H'):qeW te σ H QT:=h
theorem vB(h:te σ H fun x H'=>∃ k,x=.bl k/\QT k H'):tB te σ H QT:=h
theorem vNot(h:c σ H fun b a=>QT (!b) a):qfS c σ H QT:=h
theorem vAnd(h:c σ H fun b a=>if b=true then c' σ a QT else QT false a):qfR c c' σ H QT:=h
theorem vOr(h:c σ H fun b a=>if b=true then QT true a else c' σ a QT):tOr c c' σ H QT:=h
theorem vAndV(h:ta σ H fun x a=>∃ k,x=.bl k/\if k=true then tb σ a Q else Q (.bl false) a):qfb ta tb σ H Q:=h
theorem vOrV(h:ta σ H fun x a=>∃ k,x=.bl k/\if k=true then Q (.bl true) a else tb σ a Q):tOrV ta tb σ H Q:=h
theorem vNotV(h:ta σ H fun x a=>∃ k,x=.bl k/\Q (.bl (!k)) a):qfc ta σ H Q:=h
theorem vIf(h:c σ H fun b a=>if b=true then ta σ a Q else tb σ a Q):tIf c ta tb σ H Q:=h
theorem vYes(h:QT true H):qfJ σ H QT:=h
theorem vI0{g:Int->Int->V}(h:Q (g i j) H):rI0 g (.int i) (.int j) H Q:=⟨i,j,rfl,rfl,h⟩
theorem vI{C:Int->Int->Prop}{g:Int->Int->V}(hc:C i j)(h:Q (g i j) H):rI C g (.int i) (.int j) H Q:=⟨i,j,rfl,rfl,hc,h⟩
theorem vEqI(h:Q (.bl (decide (i=j))) H):rEq (.int i) (.int j) H Q:=⟨rfl,by
 have e:decide (V.int i=V.int j)=decide (i=j):=by
  by_cases h:i=j
  .subst h;simp
  .rw [yl h,yl (fun e=>h (V.int.inj e))]
 rw[e];show h⟩
theorem vEqB{i j:Bool}(h:Q (.bl (i==j)) H):rEq (.bl i) (.bl j) H Q:=⟨rfl,by rw[dec_bl];show h⟩
theorem zd(b:H p=some (.lst xs))(a:atI xs i=some v)(h:Q v H):rIx K (.ref p) (.int i) H Q:=.inl ⟨p,xs,i,v,rfl,rfl,SqL.of b,a,h⟩
theorem vIxLs(b:SqL K H p xs)(a:atI xs i=some v)(h:Q v H):rIx K (.ref p) (.int i) H Q:=.inl ⟨p,xs,i,v,rfl,rfl,b,a,h⟩
theorem zo(b:H p=some (.tup xs))(a:atI xs i=some v)(h:Q v H):rIx K (.ref p) (.int i) H Q:=.inr (.inl ⟨p,xs,i,v,rfl,rfl,SqT.of b,a,h⟩)
theorem qfO{ch:Nat}(b:z.length<=sizeLine)(a:atI z.cps.toList i=some ch)(h:Q (.str ⟨#[ch]⟩) H):rIx K (.str z) (.int i) H Q:=.inr (.inr ⟨z,i,ch,rfl,rfl,b,a,h⟩)
theorem qeh{k:Int}{j:Nat}{a:Hp->Prop}(c:H p=some (.lst xs))(b:ixN xs.length k=some j)(h:a (upd H p (.lst (xs.set j v)))):rSetL (.ref p) (.int k) v H a:=⟨p,xs,k,j,rfl,rfl,c,b,h⟩
theorem vEx{k:Bool}{P:Bool->Prop}(h:P k):∃ k',V.bl k=.bl k'/\P k':=⟨k,rfl,h⟩
theorem vLeI(h:Q (.bl (decide (i<=j))) H):qfK (.int i) (.int j) H Q:=h
theorem vLeS{i j:Str}(h:Q (.bl (!decide (j.cps.toList<i.cps.toList))) H):qfK (.str i) (.str j) H Q:=h
theorem vIsB{i j:Bool}(h:Q (.bl (i==j)) H):qfL (.bl i) (.bl j) H Q:=h
theorem vAddI(h:Q (.int (i+j)) H):qeg K (.int i) (.int j) H Q:=h
theorem qeZ{i j:Str}(a:i.length+j.length<=sizeLine)(h:Q (.str (i++j)) H):qeg K (.str i) (.str j) H Q:=⟨a,h⟩
theorem qct(hc:CMul i j)(h:Q (.int (i*j)) H):qfn (.int i) (.int j) H Q:=⟨hc,h⟩
theorem qe0(a:z.length<=sizeLine)(h:Q (.int z.length) H):qdq K [.str z] H Q:=⟨a,h⟩
theorem ze(a:H p=some (.lst ys))(h:Q (.int ys.length) H):qdq K [.ref p] H Q:=.inl ⟨ys,.inl (SqL.of a),h⟩
theorem vLenLs(a:SqL K H p ys)(h:Q (.int ys.length) H):qdq K [.ref p] H Q:=.inl ⟨ys,.inl a,h⟩
theorem qe1(a:H p=some (.tup ys))(h:Q (.int ys.length) H):qdq K [.ref p] H Q:=.inl ⟨ys,.inr (SqT.of a),h⟩
theorem qfP{lo a:Option Int}(b:z.length<=sizeLine)(h:Q (.str (Txt.slice z lo a)) H):qfM K (.str z) lo a H Q:=⟨b,h⟩
theorem vSl{f:V->Option Int->Option Int->Hp->VK->Prop}{tl a:TO}(h:te σ H fun x b=>tl σ b fun l c=>a σ c fun u d=>f x l u d Q):tSl f te tl a σ H Q:=h
theorem vNoPart(h:QO none H):qdD σ H QO:=h
theorem vPart(h:te σ H fun x a=>∃ i,x=.int i/\QO (some i) a):qfj te σ H QO:=h
theorem vExI{P:Int->Prop}(h:P i):∃ j,V.int i=.int j/\P j:=⟨i,rfl,h⟩
theorem vBM{f:V->List V->Hp->VK->Prop}(h:te σ H fun x a=>tyV K T x a/\tas σ a fun xs b=>f x xs b Q):tBM K T f te tas σ H Q:=h
theorem vBM0{f:V->List V->Hp->VK->Prop}(h:te σ H fun x a=>tyV K T x a/\f x [] a Q):qfG K T f te σ H Q:=h
theorem vComp(h:wi σ H fun J a=>qdJ J g c te (qdu nl ixs σ) a Q):qeY wi g c te nl ixs σ H Q:=h
theorem vFor (h:wi σ H fun J d=>∃ W:Nat->Nat->St->Hp->Prop,(∃ m,W 0 m σ d)/\∀ i m σ H,W i m σ H ->
 (J.stop i H/\D.nx σ H)\/(J.go i H/\∃ N:St->Hp->Prop,(∀ a H',N a H'->∃ c,c<m/\W (i+1) c a H')/\∀ x H',J.yld i H x H'->g x σ H' fun b e=>t { D with nx:=N,ct:=N,bk:=D.nx } b e)):qfY wi g t D σ H:=h
theorem vRng1(h:tas σ H fun vs a=>∃ j:Int,vs=[.int j]/\-(2 ^ 62)<=j/\j<2 ^ 62/\R (Itr 0 j.toNat) a):qfg tas σ H R:=h
theorem vAny (h:te σ H fun v b=>match v with
 | .str x=>R (Its x) b
 | .ref a=>((∃ xs,SqL K b a xs)/\R (Itl K a) b)\/((∃ xs,SqT K b a xs)/\R (Itt K a) b)
 | _=>False):qfN K te σ H R:=h
theorem vGN{i:Nat}{a:St->Hp->Prop}(h:a (σ.set i (some v)) H):qbL i v σ H a:=h
end
section
variable{X:Cx}{K:yg}{o e:Expr}{es:List Expr}{to ta:TE}{t:TA}{name f:Str}{apos cpos pos:Pos}{T id:String}{r:V->List V->Hp->VK->Prop}{tg:Expr}
theorem jw(a:X.K=K):jX X (.builtin "len") (qdq K):=by subst a;show call_lenU
theorem qfp(a:X.K=K)(hc:X.calm=true):jX X (.builtin "all") (qf2 K):=by subst a;show call_all hc
theorem qfA(a:X.K=K):SlR X (qfM K):=by subst a;show u_sl
theorem jT(a:X.K=K):OpR X (binaryOp .Add) (qeg K):=by subst a;show u_add
theorem qet(a:X.K=K):MtR X "str.join" (qfo K):=by subst a;show mt_join
theorem qM(b:X.K=K)(c:PE X e ta)(a:∀ it v,letOwnedTupleGo tg it v=pure ():=by intro _ _;rfl):PI X tg e (qfN K ta):=by subst b;show pi_any c a
theorem k_bm0(e:X.K=K)(h:PlainAttrs T)(c:Slot T name id)(d:typeOf (.builtin id)=pure (.type "method_descriptor"))(f:MtR X id r)(g:PE X o to)
  (a:attributeBase o name X.env (eval o X.env)=eval o X.env:=by rfl) (b:(apos.endLine==cpos.line)=true:=by rfl):PE X (.Call (.Attribute o name apos) [] [] cpos) (qfG K T r to):=by
 subst e;show pe_bm0 h c d f g a b
theorem qb2(h:X.K=K)(n:PlainAttrs T)(f:Slot T name id)(g:typeOf (.builtin id)=pure (.type "method_descriptor"))(j:MtR X id r)(l:PE X o to)(i:PA X (e::es) t)
  (b:attributeBase o name X.env (eval o X.env)=eval o X.env:=by rfl)
  (d:((backTo cpos (starEach (e::es) X.env)).all (fun x=>!x.1)&&(backToKw cpos (keywordEach [] X.env)).all (fun x=>x.1.isSome)
   && decide ((e::es).length+([]:List Keyword).length+(if ([]:List Keyword).isEmpty then 0 else 1)<30))=true:=by rfl)
  (c:(apos.endLine==cpos.line)=true:=by rfl) (m:starEach (e::es) X.env=(false,eval e X.env)::starEach es X.env:=by rfl) (a:(backTo cpos (starEach es X.env)).any (·.1)=false:=by rfl) :
  PE X (.Call (.Attribute o name apos) (e::es) [] cpos) (tBM K T r to t):=by
 subst h;show pe_bm n f g j l i b d c m a
end
structure DefOk(P:Program)(w:World)(K:yg)(mg:Str->Option Value)(base:Heap)(CX:CXT)(k:Nat)(x:Str)(ps:LS)(sp:Sp):Prop where
 ex:∃ f fd,FnOk P w K mg base CX k f fd ps sp/\mg x=some (.ref f)/\PySem.W.keepIn K (.ref f)=true/\Binds K fd ps []
section
variable{X:Cx}{CX:CXT}{k:Nat}{ps:LS}{sp:Sp}{E:XK}{x:Str}{p pos:Pos}{e:Expr}{es:List Expr}{t:TA}
theorem qo(D:DefOk X.prog X.w X.K X.mg X.base CX k x ps sp)(j:Room k X.A)(l:zE CX X E)(c:PA X (e::es) t)(g:Gl X x:=by rfl)(a:(x==("__debug__":Str))=false:=by decide)
  (d:starEach (e::es) X.env=(false,eval e X.env)::starEach es X.env:=by rfl) (b:(backTo pos (starEach es X.env)).any (·.1)=false:=by rfl):PE X (.Call (.Name x p) (e::es) [] pos) (qco sp [] E t):=by
 obtain⟨f,fd,F,i,h,hb⟩:=D.ex;show pe_call F j g i h hb .nil l c a d b
theorem qaI(c:Gl X x)(a:∃ tk,X.mg x=some (.int i tk))(b:(x==("__debug__":Str))=false:=by decide):PE X (.Name x pos) (tC (.int i)):=by
 obtain⟨tk,a⟩:=a;show qdx c a ⟨tk,rfl⟩ b
end
noncomputable def qdv(t c:String):Bool:=t==c||(t=="bool"&&c=="int")
theorem jP(K:yg):∀ t∈["NoneType","bool","int","str","list","tuple","dict"],∀ c∈["bool","int","str","list","tuple","dict"],PySem.W.kitOne K (.type t) (.type c)=some (qdv t c):=by
 intro t a c hc;simp only[yA,yS,YN] at a hc;rcases a with rfl | rfl | rfl | rfl | rfl | rfl | rfl<;>rcases hc with rfl | rfl | rfl | rfl | rfl | rfl<;>rfl
noncomputable def qbI:List Value->Bool
 | [.type a,.type b,.type c,.type d]=>a=="ValueError"&&b=="Exception"&&c=="BaseException"&&d=="object"
 | .ref _::r=>qbI r
 | _=>false
noncomputable def qfB(K:yg)(C:Addr):Bool:=match K.lookup C with
 | some ⟨.type "type",_,.cls cd,sl⟩=>(match cd.mro,sl.toList with
  | .ref D::bm,[_,_,_,_,some (.builtin n),_]=>D==C&&!cd.hasDel&&qbI bm&&n=="ValueError.__new__"
  | _,_=>false)
 | _=>false
theorem qcW{K:yg}(X:K.In h)(q:qfB K C=true):∃ o p N bs d c sn b ab a e f g i j m,
  h.get? C=some (excClassObj o p C N bs d c sn b ab a e f g i j m "ValueError.__new__")/\qbI d=true:=by
 unfold qfB at q;split at q
 .rename_i e cd sl ho
  split at q
  .rename_i D d f g i j n m hm hs
   simp only[yX,yY,xX] at q;obtain⟨⟨⟨t,r⟩,u⟩,v⟩:=q;subst t v;obtain⟨o,bs,mro,ns,p,w,sn,b,ab,a,s⟩:=cd;dsimp only at hm r;subst hm r;obtain⟨l⟩:=sl;dsimp only at hs;subst hs;show⟨o,p,ns,bs,d,w,sn,b,ab,a,e,f,g,i,j,m,X _ _ ho,u⟩
  .cases q
 .cases q
structure XAt(K:yg)(C:Addr):Prop where
 ga:PySem.W.findIn K (.ref C) "__getattribute__"=some (some (.builtin "BaseException.__getattribute__"))
 gn:PySem.W.findIn K (.ref C) "__getattr__"=some none
 bx:PySem.W.mroIn K C (.type "BaseException")=some true
 ob:PySem.W.mroIn K C (.type "object")=some true
 hd:PySem.W.hasDictIn K C=true
 cl:PySem.W.findIn K (.ref C) "__class__"=some (some (.builtin "object.__class__"))
 cg:PySem.W.specialIn K (.builtin "object.__class__") "__get__"=some (some (.builtin "getset_descriptor.__get__"))
 ct:PySem.W.takesIn K (.builtin "object.__class__")=some true
 sa:PySem.W.findIn K (.ref C) "__setattr__"=some (some (.builtin "object.__setattr__"))
 mr:(PySem.W.clsIn K C).any (fun cd=>qbI cd.mro)=true
 xc:qfB K C=true
theorem bexc_ga_slot:Slot "ValueError" "__getattribute__" "BaseException.__getattribute__":=PySem.F.attr_ValueError.ga
section
variable{prog:Program}{w:World}{A:Around}{E:Value->Shared->Prop}{s:Shared}{K:yg}{x C:Addr}{ox:Obj}{od:Option Obj}{name:Str}{v:Value}
theorem xga_value{Q:Fin->Shared->Prop}(X:K.In s.heap)(I:PySem.W.InstAt s.heap x ox C od)(a:PySem.W.findObj K C od name=some (.value v))(h:Q (.done (.ret v)) s) :
  wpAny (model prog w) A (Builtin.«object.__getattribute__» ⟨[.ref x,.str name tk],[]⟩) Q E s:=by
 have F:=PySem.W.looks_find (M:=model prog w) X I a;show yr (yv (yr (yv (yr (I.type.here (yr (F.here ?_)))))));show yv h
theorem xga_call{R:Result->Shared->Prop}(X:K.In s.heap)(I:PySem.W.InstAt s.heap x ox C od)(hb:PySem.W.mroIn K C (.type "BaseException")=some true)
  (h:wpAny (model prog w) A.in1 (Builtin.«object.__getattribute__» ⟨[.ref x,.str name tk],[]⟩) (fun a s'=>match a with | .done f=>R (.ok f) s' | .again c'=>c'.quiet=true/\codeAny (model prog w) A c' R s') (fun e s'=>R (.error e) s') s) :
  codeAny (model prog w) A (.call (.builtin "BaseException.__getattribute__") ⟨[.ref x,.str name tk],[]⟩) R s:=by
 show Y7 bexc_ga_slot.plain PySem.F.entry_bexc_ga ?_;show @PySem.W.check_slot (model prog w) _ _ s "BaseException.__getattribute__" "BaseException" "__getattribute__" (.ref x) [.str name tk] [] _ (by room) (by room) (I.type.andThen (xl X hb)) (PySem.F.args_bexc_ga _ _) h
theorem qdK{b:Bool}{Q:Value->Shared->Prop}(X:K.In s.heap)(I:PySem.W.InstAt s.heap x ox C od)(c:XAt K C)
  (h:wpAny (model prog w) A.in1 (Builtin.«object.__getattribute__» ⟨[.ref x,.str name tk],[]⟩) (fun a s'=>match a with | .done (.ret v)=>wpAny (model prog w) A (handedOut v) Q E s' | _=>False) (fun _ _=>False) s) :
  wpAny (model prog w) A (getAttrBy (.ref x) (.str name tk) b expr) Q E s:=by
 unfold getAttrBy;show Yl (yr (I.type.here (yr ((YJ X c.ga).here ?_))))
 have d:(onTheHeap (Value.ref C)&&Value.builtin "BaseException.__getattribute__"==Value.builtin "object.__getattribute__")=false:=by
  rw[show(Value.builtin "BaseException.__getattribute__"==Value.builtin "object.__getattribute__")=false by room];rfl
 dsimp only;rw[d,yB (by decide)];unfold getAttrByItsOwn hookBefore;rw[yG (show onTheHeap (Value.ref C)=true from rfl)];show yr ((YJ X c.gn).here (yr (ky (Yl ?_))));have e:(expr&&onTheHeap (Value.builtin "BaseException.__getattribute__"))=false:=by cases expr<;>rfl
 unfold callGetattribute;rw[e,yB (by decide)];unfold boundAndCalled;rw[bexc_ga_slot.bind];show yr (yv ?_);show wpAny _ _ (call (.builtin "BaseException.__getattribute__") [.ref x,.str name tk]) _ _ _;show xj (xga_call X I c.bx (Ym h (fun a s' z=>?_) fun _ _ z=>z.elim));rcases a with(_ | _ | _ | _) | _<;>first | show z | show z.elim
theorem xget{Q:Value->Shared->Prop}(X:K.In s.heap)(I:PySem.W.InstAt s.heap x ox C od)(c:XAt K C)(a:PySem.W.findObj K C od name=some (.value v))(b:PySem.W.handedIn v=true)
  (h:Q v { s with toks:=s.toks+1 }):wpAny (model prog w) A (getAttr (.ref x) name expr) Q E s:=by
 unfold getAttr;show yr (wpAny_mkText (qdK (s:={ s with toks:=s.toks+1 }) X I c (xga_value (s:={ s with toks:=s.toks+1 }) X I a ?_)));show wpAny _ _ (handedOut v) _ _ _;rw[PySem.W.handedOut_of b];show yv h
theorem xclass{Q:Option Value->Shared->Prop}(X:K.In s.heap)(I:PySem.W.InstAt s.heap x ox C od)(c:XAt K C)(a:PySem.W.findObj K C od "__class__"=some (.bind (.builtin "getset_descriptor.__get__") (.builtin "object.__class__")))
  (h:Q (some (.ref C)) { s with toks:=s.toks+1 }):wpAny (model prog w) A (getAttr? (.ref x) "__class__") Q E s:=by
 unfold getAttr? getAttrBy?;show yr (wpAny_mkText (yr (ky (qdK (s:={ s with toks:=s.toks+1 }) X I c ?_))));have F:=PySem.W.looks_find (M:=model prog w) X I a;show yr (yv (yr (yv (yr (I.type.here (s:={ s with toks:=s.toks+1 }) (yr (F.here (s:={ s with toks:=s.toks+1 }) ?_)))))));show wpAny _ _ (holding [Value.builtin "object.__class__"] (call (.builtin "getset_descriptor.__get__") [.builtin "object.__class__",.ref x,.ref C])>>=ret) _ _ _;show yr (Yl (xj (PySem.W.class_get (s:={ s with toks:=s.toks+1 }) X I c.ob ?_)));show yv ?_;show wpAny _ _ (handedOut (.ref C)) _ _ _;show yv (yv h)
theorem findObj_class(c:XAt K C):PySem.W.findObj K C od "__class__"=some (.bind (.builtin "getset_descriptor.__get__") (.builtin "object.__class__")):=by
 obtain⟨a,hc,_⟩:=xH c.hd;unfold PySem.W.findObj;rw[hc,Option.bind_some,c.cl,Option.bind_some];simp[c.cg,c.ct]
theorem qcX(c:XAt K C):PySem.W.KitX K (.ref x) (.ref C) (fun h=>PySem.W.InstAt h x ox C od) where
 ty:=fun _ _ _ I=>I.type
 it:=fun _ _ X _=>by
  obtain⟨b,hc,_⟩:=xH c.hd;unfold PySem.W.clsIn at hc;split at hc
  .rename_i c1 d1 cd1 sl1 ho
   intro f i g s' k q;unfold isType loadHead;show yr (wpAny_loadPart (k _ _ (X _ _ ho)) (yv q))
  .cases hc
 ne:=fun h d j its n l X a=>by
  obtain⟨b,hc,_⟩:=xH c.hd;show Bool.eq_false_iff.mpr fun q=>?_;have e:C=d:=XI (yY.mp q);subst e;unfold PySem.W.clsIn at hc;split at hc
  .rename_i c1 d1 cd1 sl1 ho
   have z:=(X _ _ ho).symm.trans a;cases z
  .cases hc
 ca:=fun X I k=>xclass X I c (findObj_class c) k
end
theorem qb3{r:List Value}(e:qbI (.ref c::r)=true):qbI r=true:=by
 cases r with
 | nil=>cases e
 | cons a r=>show e
theorem qai:∀{l:List Value},qbI l=true->∃ f:LI,l=f.map Value.ref++[.type "ValueError",.type "Exception",.type "BaseException",.type "object"]
 | [],e=>by cases e
 | .ref c::r,e=>by
  obtain⟨f,q⟩:=qai (qb3 e);show⟨c::f,by rw[q];rfl⟩
 | .type a::r,e=>by
  match r,e with
  | [.type b,.type c,.type d],e =>
   simp only[qbI,yX,yY] at e;obtain⟨⟨⟨rfl,rfl⟩,rfl⟩,rfl⟩:=e;show⟨[],rfl⟩
theorem refuse_exc(self:Value)(e:qbI l=true):refuseLoop self "__setattr__" l=pure ():=by
 obtain⟨a,rfl⟩:=qai e
 induction a with
 | nil=>show PySem.F.store_ValueError.passes self
 | cons c a ih=>rw[yJ,XE,refuseLoop_ref];show ih (qb3 e)
theorem qaj(e:qbI l=true)(h:T∈["ValueError","Exception","BaseException","object"]):l.contains (.type T)=true:=by
 obtain⟨a,rfl⟩:=qai e;rw[List.contains_iff_mem];show yM _ ?_;simp only[yA,yS,YN] at h ⊢;rcases h with rfl | rfl | rfl | rfl<;>simp
section
variable{prog:Program}{w:World}{A:Around}{E:Value->Shared->Prop}{s:Shared}{K:yg}{x C:Addr}{name:Str}{v:Value}{R:Result->Shared->Prop}
theorem xosa(X:K.In s.heap)(I:PySem.W.InstAt s.heap x ox C od)(c:XAt K C)(n:NoAttr K C name)
  (h:wpAny (model prog w) A.in1 (Builtin.ObjectAttr.storeInOwnDict (.ref x) (.ref C) (.str name tk) name v false)
   (fun b s'=>match b with | .done f=>R (.ok f) s' | .again c'=>c'.quiet=true/\codeAny (model prog w) A c' R s') (fun e s'=>R (.error e) s') s) :
  codeAny (model prog w) A (.call (.builtin "object.__setattr__") ⟨[.ref x,.str name tk,v],[]⟩) R s:=by
 have a:=PySem.F.store_object;obtain⟨d,hc,i⟩:=xH c.mr;have g:PySem.W.Looks (model prog w) s.heap (mroOf (.ref C)) d.mro:=(X5 X hc).andThen .now;show Y7 a.slot.plain a.entry (@PySem.W.check_slot (model prog w) _ _ s "object.__setattr__" "object" "__setattr__" (.ref x) [.str name tk,v] [] _ a.kind a.split (I.type.andThen (xl X c.ob)) (a.args (.ref x) (.str name tk) v) ?_);rw[PySem.W.osa_eq,refuse_eq];show yr (yr (I.type.here (yr (g.here ?_))));rw[refuse_exc _ i];show yv (yr (I.type.here (yr ((YJ X n).here (yr (yv ?_))))));show h
theorem xset(X:K.In s.heap)(m:s.heap.get? x=some ⟨.ref C,none,.fields vs,#[]⟩)(c:XAt K C)(n:NoAttr K C name){Q:Unit->Shared->Prop}
  (h:∀ h',h'.get? x=some ⟨.ref C,some s.heap.objs.size,.fields vs,#[]⟩->h'.Ns1 s.heap.objs.size (fun y=>if y=name then some v else none)->(∀ b o,b≠x->s.heap.get? b=some o->h'.get? b=some o) ->
   Q () { s with heap:=h',toks:=s.toks+2 }):wpAny (model prog w) A (setAttr (.ref x) name v) Q E s:=by
 have I:PySem.W.InstAt s.heap x ⟨.ref C,none,.fields vs,#[]⟩ C none:=⟨m,rfl,rfl,YK⟩;obtain⟨L,hc,D⟩:=xH c.hd;show PySem.W.set_plain X I c.sa (xosa (s:={ s with toks:=s.toks+1 }) X I c n ?_);show yr (yv (yr (yr (wpAny_loadPart m (yr ((X5 X hc).here (s:={ s with toks:=s.toks+1 }) ?_))))));rw[D];obtain⟨a,g,M,tk,O⟩:=s;show wpAny _ _ (alloc { cls:=.type "dict",data:=.dict #[] }>>=fun d=>update x (fun o=>{ cls:=o.cls,dict:=some d,data:=o.data,slots:=o.slots })>>=fun _=>pure (some d)) _ _ _;have l:x≠a.objs.size:=yN (yF m);have i:=yt { cls:=.type "dict",data:=.dict #[] } m;show yr (wpAny_alloc' (yr (wpAny_update' i (yv ?_))));have j:=Y3 (fun o:Obj=>{ cls:=o.cls,dict:=some a.objs.size,data:=o.data,slots:=o.slots }) i rfl;have f:=(X6 (a.push { cls:=.type "dict",data:=.dict #[] }) a.objs.size x (fun o:Obj=>{ cls:=o.cls,dict:=some a.objs.size,data:=o.data,slots:=o.slots }) l.symm).trans (kr rfl rfl);generalize G:(a.push { cls:=.type "dict",data:=.dict #[] }).update x (fun o:Obj=>{ cls:=o.cls,dict:=some a.objs.size,data:=o.data,slots:=o.slots })=h2 at j f ⊢;have J:h2.Ns a.objs.size (fun _=>none):=⟨_,#[],_,f,rfl,fun e F=>absurd F (by simp),fun _=>rfl⟩;show wpAny _ _ (Builtin.ObjectAttr.storeInDict a.objs.size (.str name tk) name v) _ _ _;unfold Builtin.ObjectAttr.storeInDict Builtin.ObjectAttr.newKeyGuard;show yr (yv (yr (wpAny_nsSet1 (Heap.Ns1.of_empty J) fun h' u z=>?_)));obtain⟨N,p,B,t,r,q⟩:=u.count (PySem.Within.cons name v PySem.Within.nil);have H:p.size<=sizeLine:=yi q (by rw[yC,Yn,Ys];lk);show yr (wpAny_lookBehind t (by rw[r];show pastItsLine_dict (Nat.le_succ_of_le H)) ?_);show yv (h h' ((z.2 x l).trans j) u fun b o hb e=>(z.2 b (yN (yF e))).trans ?_);rw[<- G];show(X6 _ _ _ _ hb).trans (yt _ e)
theorem ve_check{Q:Unit->Shared->Prop}(X:K.In s.heap)(c:XAt K C)(l:s.heap.get? x=some ox)(a:ox.cls=.ref C)(q:Q () s) :
  wpAny M A (checkBuiltinCall "ValueError.__init__" ⟨[.ref x,u],[]⟩) Q E s:=by
 have F:=YT;have b:=F.noStar;obtain⟨z,D,N,bs,h,f,sn,m,ab,i,n,r,t,v,w,y,e,j⟩:=qcW X c.xc;have d:(Value.ref C::h).contains (.type "ValueError")=true:=by rw[Yo,qaj j (by simp),X9]
 obtain⟨p,g,o,tk,B⟩:=s;simp only[checkBuiltinCall,F.initKind,F.initSplit,F.initRow]
 repeat (first | (with_reducible show YF l ?_;rw[a]) | with_reducible show YF e ?_ | (with_reducible show xm e ?_;rw[d]) | wp_step)
 show q
noncomputable abbrev xfs(a0:Addr):Array Value:=#[.ref a0,.none,.none,.none,.bool false,.none]
theorem xbase_init(X:K.In s.heap)(a:s.heap.get? x=some ⟨.ref C,none,.fields (xfs a0),#[]⟩)(c:XAt K C){Q:Value->Shared->Prop}
  (h:∀ h' d,h'.get? x=some ⟨.ref C,none,.fields (xfs d),#[]⟩->(∀ b o,b≠x->s.heap.get? b=some o->h'.get? b=some o)->Q .none { s with heap:=h' }) :
  wpAny (model prog w) A (call (.builtin "ValueError.__init__") [.ref x,u]) Q E s:=by
 have F:=YT;show xj (Y7 F.init.plain F.initEntry (ve_check X c a rfl ?_));obtain⟨f,g,i,tk,j⟩:=s
 wp_walk
 show h _ f.objs.size ?_ fun b o hb e=>?_
 .rw [Y3 _ (yt _ a) rfl];rfl
 .rw [Yz _ _ (Yq hb)];show yt _ e
end
theorem qcY(e:qbI l=true)(h:T∉["ValueError","Exception","BaseException","object"]):l.contains (.type T)=false:=by
 obtain⟨b,rfl⟩:=qai e;show Bool.eq_false_iff.mpr fun q=>?_;rcases yH.mp (List.contains_iff_mem.mp q) with z | z
 .obtain⟨a,_,q⟩:=yQ.mp z;cases q
 .simp only[yA,yS,YN,Value.type.injEq] at z h;show h z
section
variable{prog:Program}{w:World}{A:Around}{R:Result->Shared->Prop}{E:Value->Shared->Prop}{h:Heap}{g:Array GenState}{d:Drawn}{t:Nat}{os:OsState}
variable{nm q:Str}{C N:Addr}{bs bm:List Value}{hdct:Bool}{sn:LS}{sub:List Value}{ab:Bool}{col:Option Bool}{dd:Option Addr}{k0 k1 k2 k3 k5:Option Value}
theorem xnew_check{rest:List Value}{Q:Unit->Shared->Prop}(b:h.get? C=some (excClassObj nm q C N bs bm hdct sn sub ab col dd k0 k1 k2 k3 k5 "ValueError.__new__"))(e:qbI bm=true)(f:Q () ⟨h,g,d,t,os⟩) :
  wpAny M A (checkBuiltinCall "ValueError.__new__" ⟨.ref C::rest,[]⟩) Q E ⟨h,g,d,t,os⟩:=by
 have F:=YT;have a:(Value.ref C::bm).contains (.type "ValueError")=true:=by rw[Yo,qaj e (by simp),X9]
 have c:=F.noStar;simp only[checkBuiltinCall,F.newKind,F.newSplit,F.newRow]
 repeat (first | show YF b ?_ | (show xm b ?_;rw[a]) | show wpAny_staticBase_exc b ?_ | show wpAny_madeBy_exc b ?_ | simp only[bne_self_eq_false,Xn,ke] | wp_step)
 show f
theorem xnew{rest:List Value}(b:h.get? C=some (excClassObj nm q C N bs bm hdct sn sub ab col dd k0 k1 k2 k3 k5 "ValueError.__new__"))(j:qbI bm=true)(l:rest.length<=sizeLine)
  (m:R (.ok (.ret (.ref (h.objs.size+1)))) ⟨(h.push { cls:=.type "tuple",data:=.seq rest.toArray }).push { cls:=.ref C,data:=.fields (xfs h.objs.size) },g,d,t,os⟩) :
  codeAny (model prog w) A (.builtin "ValueError.__new__" ⟨.ref C::rest,[]⟩) R ⟨h,g,d,t,os⟩:=by
 have F:=YT;have i:=F.ends;have e:(Value.ref C::bm).contains (.type "ValueError")=true:=by rw[Yo,qaj j (by simp),X9]
 have c:(Value.ref C::bm).contains (.type "AttributeError")=false:=by rw[Yo,qcY j (by simp)];rfl
 have f:(Value.ref C::bm).contains (.type "NameError")=false:=by rw[Yo,qcY j (by simp)];rfl
 show codeAny_builtinAt F.entry ?_;unfold Builtin.«BaseException.__new__»;show PySem.wpAt_bind ?_;show PySem.wpAt _ _ _ (stack>>=_) _ _ _;show PySem.wpAt_bind (PySem.wpAt_stack fun n a=>PySem.wpAt_of_wpAny ?_)
 wp_walk
 show PySem.wpAt_of_wpAny ?_;rw[F.owner]
 repeat (first | with_reducible show wpAny_madeHere_exc F.canon b ?_ | with_reducible show YF b ?_ | (with_reducible show xm b ?_;first | rw[e] | rw[c] | rw[f]) | wp_step)
 show R _ _;rw[YL];show m
theorem xtype_call{K:yg}{rest:List Value}{Q:Fin->Shared->Prop}(X:K.In h)(c:h.get? C=some (excClassObj nm q C N bs bm hdct sn sub ab col dd k0 k1 k2 k3 k5 "ValueError.__new__"))(m:qbI bm=true)
  (u:PySem.W.findIn K (.ref C) "__init__"=some (some (.ref f))) (s:PySem.W.isFn K (.ref f)=true) (a:rest.length<=sizeLine)
  (v:wpAny (model prog w) A (call (.ref f) (.ref (h.objs.size+1)::rest)) (fun r s'=>r=.none/\Q (.done (.ret (.ref (h.objs.size+1)))) s') E
   ⟨(h.push { cls:=.type "tuple",data:=.seq rest.toArray }).push { cls:=.ref C,data:=.fields (xfs h.objs.size) },g,d,t,os⟩) :
  wpAny (model prog w) A (Builtin.«type.__call__» ⟨.ref C::rest,[]⟩) Q E ⟨h,g,d,t,os⟩:=by
 have F:=YT
 repeat (first | with_reducible show YF c ?_ | with_reducible show wpAny_madeBy_exc c ?_ | wp_step)
 show codeAny_call_builtin_code (kh _ F.quiet) (xnew_check c m (xnew c m a ?_));show wpAny _ _ _ _ _ _;have n:∀ b o,h.get? b=some o->((h.push { cls:=.type "tuple",data:=.seq rest.toArray }).push { cls:=.ref C,data:=.fields (xfs h.objs.size) }).get? b=some o:=fun b o e=>yt _ (yt _ e);have hC1:=n _ _ c;have i:((h.push { cls:=.type "tuple",data:=.seq rest.toArray }).push { cls:=.ref C,data:=.fields (xfs h.objs.size) }).get? (h.objs.size+1)=some { cls:=.ref C,data:=.fields (xfs h.objs.size) }:=kr (by rw[YL]) rfl;have l:K.In ((h.push { cls:=.type "tuple",data:=.seq rest.toArray }).push { cls:=.ref C,data:=.fields (xfs h.objs.size) }):=X.keeps n;have j:(Value.ref C::bm).contains (.ref C)=true:=by simp
 unfold isInstance
 repeat (first | with_reducible show YF i ?_ | (with_reducible show xm hC1 ?_;rw[j]) | wp_step)
 show wpAny _ _ (typeLookup (.ref C) _) _ _ _;show(YJ l u).at (Yl (yr ((PySem.W.bind_fn l _ (yY.mp s)).at (yr (Ym v (fun r s' x=>?_) fun _ _ z=>z)))));obtain⟨rfl,p⟩:=x
 wp_walk
 show p
theorem xcall{K:yg}{rest:List Value}{Q:Value->Shared->Prop}(X:K.In s.heap)(c:XAt K C)(i:PySem.W.findIn K (.ref C) "__init__"=some (some (.ref f)))(e:PySem.W.isFn K (.ref f)=true)(a:rest.length<=sizeLine)
  (l:wpAny (model prog w) (A.under (.builtin "type.__call__" ⟨.ref C::rest,[]⟩)) (call (.ref f) (.ref (s.heap.objs.size+1)::rest)) (fun r s'=>r=.none/\Q (.ref (s.heap.objs.size+1)) s') E
   { s with heap:=(s.heap.push { cls:=.type "tuple",data:=.seq rest.toArray }).push { cls:=.ref C,data:=.fields (xfs s.heap.objs.size) } }) :
  wpAny (model prog w) A (call (.ref C) rest) Q E s:=by
 obtain⟨nm,p,N,bs,bm,hdct,sn,sub,ab,col,dd,k0,k1,k2,k3,k5,b,j⟩:=qcW X c.xc;obtain⟨h,g,d,t,os⟩:=s;have m:=tc_lookup;have n:=tc_bind (.ref C);have o:(⟨h,g,d,t,os⟩:Shared).TypeIs (.ref C) "type":=⟨_,b,rfl⟩;show xj (kP ?_);show wpAny _ _ (callAny (.ref C) _) _ _ _
 repeat (any_goals (first | assumption | with_reducible show YF b ?_ | wp_step))
 show⟨rfl,?_⟩;show codeAny_call_builtin_at (kh _ (by room)) entry_typeCall (wpAny_check_type_call_sub b (xtype_call X b j i e a l))
end
noncomputable def XN(e C:Addr)(dx:Option Addr):HO:=.ext fun h=>∃ a0,h.get? e=some ⟨.ref C,dx,.fields (xfs a0),#[]⟩
noncomputable def XO(e C:Addr)(dx:Option Addr):HO:=.ext fun h=>∃ vs,h.get? e=some ⟨.ref C,dx,.fields vs,#[]⟩
theorem XN.ok{dx:Option Addr}(q:h.get? e=some ⟨.ref C,dx,.fields (xfs a0),#[]⟩):ObjOk P w H h e (XN e C dx):=
 ⟨⟨a0,q⟩,⟨_,q⟩,fun _ _ ⟨a,x⟩ k=>⟨a,k _ x⟩⟩
theorem XO.ok{dx:Option Addr}(q:h.get? e=some ⟨.ref C,dx,.fields vs,#[]⟩):ObjOk P w H h e (XO e C dx):=
 ⟨⟨vs,q⟩,⟨_,q⟩,fun _ _ ⟨a,x⟩ k=>⟨a,k _ x⟩⟩
def IsX(H:Hp)(e C:Addr)(dx:Option Addr):Prop:=H e=some (XN e C dx)\/H e=some (XO e C dx)
theorem IsX.get{dx:Option Addr}(q:IsX H e C dx)(b:HOk P w H h):∃ vs,h.get? e=some ⟨.ref C,dx,.fields vs,#[]⟩:=by
 rcases q with q | q
 .obtain⟨⟨a,x⟩,_⟩:=(show ObjOk P w H h e (XN e C dx) from b e _ q);show⟨_,x⟩
 .obtain⟨⟨a,x⟩,_⟩:=(show ObjOk P w H h e (XO e C dx) from b e _ q);show⟨_,x⟩
theorem upd_id{o:HO}(h:H a=some o):upd H a o=H:=by
 funext b;unfold upd;split
 .rename_i e;subst e;show h.symm
 .rfl
section
variable{X:Cx}{pins:List (Addr×Obj)}{σ:St}{H:Hp}{s:Shared}{e C:Addr}{dx:Option Addr}
theorem qeu(I:Inv X pins σ H s){d:Addr}{fs:List (Str×V)}(h:H d=some (.xd fs)):∃(od:Obj) (a:Str->Option Value),s.heap.get? d=some od/\(∀ name,PySem.W.lookIn name od=some (a name))/\∀ f,RelO (fs.lookup f) (a f):=by
 obtain⟨a,n,r⟩:=(show ObjOk X.prog X.w H s.heap d (.xd fs) from I.hok d _ h);obtain⟨od,h1,b⟩:=qbO n;show⟨od,a,h1,b,r⟩
end
section
variable{X:Cx}{pins:List (Addr×Obj)}{σ:St}{H:Hp}{s:Shared}{a d:Addr}{h':Heap}{o u:HO}{t':Nat}
theorem Inv.both(I:Inv X pins σ H s)(i:Mut (H a))(l:s.heap.objs.size<=d)(k:∀ b v,b≠a->s.heap.get? b=some v->h'.get? b=some v)(m:∃ v,h'.get? a=some v)
  (p:ObjOk X.prog X.w (upd (upd H d u) a o) h' a o) (t:ObjOk X.prog X.w (upd (upd H d u) a o) h' d u) (ne:d≠a):Inv X pins σ (upd (upd H d u) a o) { s with heap:=h',toks:=t' }:=by
 have x:H d=none:=I.hok.fresh l;have f:∀ b q,H b=some q->¬ Mut (some q)->b≠a:=fun b q e y z=>by subst z;rw[e] at i;show y i
 have j:∀ b,H b=none->b≠a:=fun b e z=>by subst z;rw[e] at i;show i
 have big:∀ b v,s.heap.get? b=some v->b≠d:=fun b v e=>yN (yj (yF e) l);have h:∀ b q,H b=some q->b≠a->upd (upd H d u) a o b=some q:=fun b q e n=>by rw[qh n,qh (qC e x)];show e
 show I.un ⟨fun b v e n _ _=>k b v (j b n) e,fun b v e n _ _=>⟨v.slots,k b v (j b n) e⟩,fun b v e n _=>by rw[qh (j b n),qh (big b v e)];show n,fun b v e _=>?_,fun b xs e=>h b _ e (f b _ e fun z=>z),fun b q xs e=>h b _ e (f b _ e fun z=>z),
  fun b ps e=>⟨#[],by rw[h b _ e (f b _ e fun z=>z)];simp⟩⟩ fun b q e=>?_
 .by_cases hb:b=a
  .subst hb;show m
  .show⟨v,k b v hb e⟩
 .by_cases hb:b=a
  .subst hb;rw[qc] at e;cases e;show p
  .rw [qh hb] at e;by_cases g:b=d
   .subst g;rw[qc] at e;cases e;show t
   .rw [qh g] at e;show(I.hok b q e).stay (fun c v hc r=>k c v ?_ r) (fun c r=>h c _ r (f c _ r fun z=>z)) fun c xs r=>h c _ r (f c _ r fun z=>z);rcases hc with rfl | hc
    .show hb
    .show f c _ hc fun z=>z
end
inductive FldR(K:yg)(f:Str)(x:V)(H:Hp)(Q:VK):Prop|mk (a C dx:Addr) (fs:List (Str×V)) (v:V) (_:x=.ref a) (_:H a=some (.ins C dx fs)) (_:Cls K C) (_:NoAttr K C f) (_:fs.lookup f=some v) (_:Q v H)
inductive XFlR(K:yg)(f:Str)(x:V)(H:Hp)(Q:VK):Prop|mk (a C dx:Addr) (fs:List (Str×V)) (v:V) (_:x=.ref a) (_:IsX H a C (some dx)) (_:XAt K C) (_:NoAttr K C f) (_:H dx=some (.xd fs)) (_:fs.lookup f=some v) (_:Q v H)
inductive FlUR(K:yg)(f:Str)(x:V)(H:Hp)(Q:VK):Prop | inl (_:FldR K f x H Q) | inr (_:XFlR K f x H Q)
inductive SFdR(K:yg)(f:Str)(x y:V)(H:Hp)(k:Hp->Prop):Prop|mk (a C dx:Addr) (fs:List (Str×V)) (_:x=.ref a) (_:H a=some (.ins C dx fs)) (_:Cls K C) (_:NoAttr K C f) (_:fs.length<1000) (_:k (upd H a (.ins C dx (jN f y fs))))
inductive SXdR(K:yg)(f:Str)(x y:V)(H:Hp)(k:Hp->Prop):Prop|mk (a C:Addr) (_:x=.ref a) (_:H a=some (XN a C none)) (_:XAt K C) (_:NoAttr K C f) (_:∀ dx,H dx=none->k (upd (upd H dx (.xd [(f,y)])) a (XN a C (some dx))))
inductive SFUR(K:yg)(f:Str)(x y:V)(H:Hp)(k:Hp->Prop):Prop | inl (_:SFdR K f x y H k) | inr (_:SXdR K f x y H k)
def qfq(K:yg)(b:TE)(f:Str):TE:=fun σ H Q=>b σ H fun x a=>FlUR K f x a Q
def qfr(K:yg)(c d:TE)(f:Str):TS:=fun D σ H=>d σ H fun y a=>c σ a fun x b=>SFUR K f x y b (D.nx σ)
section
variable{X:Cx}{o e value:Expr}{f:Str}{pos pos':Pos}{ta tv:TE}{K:yg}
theorem zF(w:X.K=K)(z:PE X e ta)(hb:attributeBase e f X.env (eval e X.env)=eval e X.env):PE X (.Attribute e f pos) (qfq K ta f):=by
 subst w;intro pins s σ H Q I h;show attr_of hb (thn (z pins s σ H _ I h) fun u E ⟨x,j,b,m,i⟩=>?_);rcases i with⟨a,C,dx,fs,v,rfl,g,c,n,l,q⟩ | ⟨a,C,dx,fs,v,rfl,g,c,n,y,l,q⟩
 .obtain rfl:u=Value.ref a:=m;show getattr_ok b g c n l fun D F p d=>⟨v,j,p,d,q⟩
 .obtain rfl:u=Value.ref a:=m;obtain⟨vs,i⟩:=g.get b.hok;obtain⟨od,B,h1,t,r⟩:=qeu b y;obtain⟨D,A,d⟩:=RelO.some_of (v:=v) (o:=B f) (by rw[<- l];show r f);show xget b.kIn (od:=some od) ⟨i,rfl,rfl,h1⟩ c (PySem.W.findObj_own c.hd n rfl (by rw[t,A])) (qbP d) ⟨v,j,b.tok _,d,q⟩
theorem qbr(J:X.K=K)(L:PE X o ta)(hv:PE X value tv)(M:swapsWith value (some (.Attribute o f pos')) pos.line X.env=pure false):PS X (.Assign [.Attribute o f pos'] value pos) (qfr K ta tv f):=by
 subst J;intro pins s σ H D I h;show plainObj_wpAny_Assign_Attribute (thn (hv pins s σ H _ I h) fun u O ⟨y,A,B,z,q⟩=>thn (L pins O σ A _ B q) fun t i ⟨x,p,b,v,e⟩=>?_) M;rcases e with⟨a,C,dx,fs,rfl,d,c,n,l,m⟩ | ⟨a,C,rfl,d,c,n,m⟩
 .obtain rfl:t=Value.ref a:=v;show setattr_ok b d c n l z fun P E=>⟨σ,_,E,m⟩
 .obtain rfl:t=Value.ref a:=v;obtain⟨⟨a0,e⟩,_⟩:=(show ObjOk X.prog X.w p i.heap a (XN a C none) from b.hok a _ d);show xset b.kIn e c n fun h' r F G=>?_;have N:p i.heap.objs.size=none:=b.hok.fresh (yh _);have ne:i.heap.objs.size≠a:=Xa (yF e);show⟨σ,_,b.both (o:=XN a C (some i.heap.objs.size)) (u:=.xd [(f,y)]) (by rw[d];show YK) (yh _) G ⟨_,r⟩ (XN.ok r) ⟨_,F,fun g=>?_⟩ ne,m _ N⟩;by_cases j:g=f
  .subst j;simp only[List.lookup,xu,Xi];show z
  .have hb:(g==f)=false:=Yr.mpr j;simp only[List.lookup,hb,yB j];show YK
end
def qdL(C:Addr)(sp:Sp)(E:XK)(t:TA):TE:=fun σ H Q=>t σ H fun vs a=>vs.length<=1000/\∀ x,a x=none->sp (.ref x::vs) (upd a x (XN x C none)) (fun v b=>v=.non/\Q (.ref x) b) E
structure XMk(K:yg)(C f:Addr):Prop where
 at_:XAt K C
 init:PySem.W.findIn K (.ref C) "__init__"=some (some (.ref f))
 fn:PySem.W.isFn K (.ref f)=true
 kp:PySem.W.keepIn K (.ref C)=true
section
variable{X:Cx}{CX:CXT}{k:Nat}{f C:Addr}{fd:FuncData}{ps:LS}{sp:Sp}{E:XK}{x m:Str}{p pos apos:Pos}{e o:Expr}{es:List Expr}{ta:TE}{t:TA}
theorem run_xmake{Q:VK}{vs:List V}(M:XMk X.K C f)(F:FnOk X.prog X.w X.K X.mg X.base CX k f fd ps sp)(y:Room (k+1) X.A)(hb:Binds X.K fd ps [])
  (B:zE CX X E) (I:Inv X pins σ H s) (r:Vals vs us) (i:vs.length<=1000) (h:∀ x,H x=none->sp (.ref x::vs) (upd H x (XN x C none)) (fun v n=>v=.non/\Q (.ref x) n) E) :
  wpAny (model X.prog X.w) X.A (call (.ref C) us) (EP X pins σ Q) X.xe s:=by
 have l:=h (s.heap.objs.size+1) (I.hok.fresh (xF _));have J:∀ b o,s.heap.get? b=some o->((s.heap.push { cls:=.type "tuple",data:=.seq us.toArray }).push { cls:=.ref C,data:=.fields (xfs s.heap.objs.size) }).get? b=some o:=fun b o q=>yt _ (yt _ q);have d:((s.heap.push { cls:=.type "tuple",data:=.seq us.toArray }).push { cls:=.ref C,data:=.fields (xfs s.heap.objs.size) }).get? (s.heap.objs.size+1)=some ⟨.ref C,none,.fields (xfs s.heap.objs.size),#[]⟩:=kr (by rw[YL]) rfl;have g:=I.laid (a:=s.heap.objs.size+1) (o:=XN (s.heap.objs.size+1) C none) (t':=s.toks) J (xF _) (XN.ok d);have m:Vals (V.ref (s.heap.objs.size+1)::vs) (Value.ref (s.heap.objs.size+1)::us):=.cons rfl r
 have hl:(Value.ref (s.heap.objs.size+1)::us++[]).length=ps.length:=by
  have q:=m.length;rw[F.len _ _ _ _ l] at q;rw[Yt];show q.symm
 have j:us.length<=sizeLine:=by rw[<- r.length];show yP (qi i)
 show xcall I.kIn M.at_ M.init M.fn j (xj (Y6 (F.run _ X.stack _ _ ⟨Value.ref (s.heap.objs.size+1)::us,[]⟩ (Value.ref (s.heap.objs.size+1)::us) _ _ E (y.make C us [])
  (g.env0.make C us []) (by have z:=hb _ (Value.ref (s.heap.objs.size+1)::us) g.kIn hl;rw[Yt] at z;show z) m l) fun r s' c=>?_))
 cases r with
 | error e=>show B pins σ _ _ e s' g c
 | ok fl =>
  cases fl with
  | ret u =>
   obtain⟨v,H',p,G,t,D⟩:=g.after c;subst t;show⟨G,⟨V.ref (s.heap.objs.size+1),H',p,rfl,D⟩⟩
  | next=>show False.elim c
  | brk=>show False.elim c
  | cont=>show False.elim c
theorem pe_xmake(M:XMk X.K C f)(F:FnOk X.prog X.w X.K X.mg X.base CX k f fd ps sp)(l:Room (k+1) X.A)(i:Gl X x)(j:X.mg x=some (.ref C))(hb:Binds X.K fd ps [])(m:zE CX X E)
  (d:PA X (e::es) t) (a:(x==("__debug__":Str))=false:=by decide) (g:starEach (e::es) X.env=(false,eval e X.env)::starEach es X.env:=by rfl) (b:(backTo pos (starEach es X.env)).any (·.1)=false:=by rfl) :
  PE X (.Call (.Name x p) (e::es) [] pos) (qdL C sp E t):=by
 intro pins s σ H Q I h;show YR (zB I i j ?_ a);show Y4 (h₀:=X.base) I.ok.mod.kin M.kp (thn (d pos pins s σ H _ I h) fun us o ⟨vs,n,c,r,z,q⟩=>⟨c.kIn,?_⟩) g b;show run_xmake M F l hb m c r z q
structure CMeth(K:yg)(C:Addr)(m:Str)(f:Addr):Prop where
 rd:PySem.W.readsIn K C (.type "type")=true
 at_:PySem.W.findCls K (.ref C) (.type "type") m=some (.val (.ref f))
 ga:PySem.W.specialIn K (.ref C) "__getattribute__"=some (some (.builtin "type.__getattribute__"))
 kp:PySem.W.keepIn K (.ref f)=true
theorem pe_clsm(M:CMeth X.K C m f)(F:FnOk X.prog X.w X.K X.mg X.base CX k f fd ps sp)(l:Room k X.A)(i:Gl X x)(j:X.mg x=some (.ref C))(hb:Binds X.K fd ps [])(o:zE CX X E)(g:PA X (e::es) t)
  (a:(x==("__debug__":Str))=false:=by decide) (c:starEach (e::es) X.env=(false,eval e X.env)::starEach es X.env:=by rfl) (b:(backTo pos (starEach es X.env)).any (·.1)=false:=by rfl)
  (n:eval (.Call (.Attribute (.Name x p) m apos) (e::es) [] pos) X.env=(do
   let ov <- eval (.Name x p) X.env
   standAt apos.atName
   let (f,first) <- holding [ov] (getMethod ov m pl)
   callWith pos f first (backTo pos (starEach (e::es) X.env)) (backToKw pos (keywordEach [] X.env))):=by rfl) :
  PE X (.Call (.Attribute (.Name x p) m apos) (e::es) [] pos) (qco sp [] E t):=by
 intro pins s σ H Q I h;show xU (pl:=pl) (zB I i j ?_ a) n;show PySem.W.method_cls I.kIn M.ga (PySem.W.cls_value I.kIn M.rd M.at_ rfl ?_);show Y4 (first:=[]) (h₀:=X.base) I.ok.mod.kin M.kp (thn (g pos pins _ σ H _ (I.tok (s.toks+1)) h) fun us v ⟨vs,u,d,r,q⟩=>⟨d.kIn,?_⟩) c b;show qcO F l hb .nil o d r q
end
def qev(K:yg)(t:TA):TE:=fun σ H Q=>t σ H fun vs b=>∃ a C y,vs=[.ref a,y]/\b a=some (XN a C none)/\XAt K C/\Q .non b
theorem ve_type:PySem.W.Looks M h (typeOf (.type "ValueError")) (.type "type"):=PySem.W.Looks.of_pure (by kernel_rfl)
theorem ve_opaque:PySem.W.Looks M h (opaqueClassAbove (.type "ValueError")) none:=PySem.W.Looks.of_pure (by kernel_rfl)
structure VInit(K:yg):Prop where
 ga:PySem.W.findIn K (.type "type") "__getattribute__"=some (some (.builtin "type.__getattribute__"))
 su:PySem.W.subIn K (.type "type") (.type "type")=some true
 at_:PySem.W.findCls K (.type "ValueError") (.type "type") "__init__"=some (.val (.builtin "ValueError.__init__"))
section
variable{X:Cx}{p pos apos:Pos}{e:Expr}{es:List Expr}{t:TA}{K:yg}
theorem k_vinit(E:X.K=K)(V:VInit K)(G:Gl X "ValueError")(L:X.mg "ValueError"=none)(hv:bootBuiltins "ValueError"=some (.type "ValueError"))(F:PA X (e::es) t)
  (l:starEach (e::es) X.env=(false,eval e X.env)::starEach es X.env:=by rfl) (j:(backTo pos (starEach es X.env)).any (·.1)=false:=by rfl)
  (M:eval (.Call (.Attribute (.Name "ValueError" p) "__init__" apos) (e::es) [] pos) X.env=(do
   let ov <- eval (.Name "ValueError" p) X.env
   standAt apos.atName
   let (f,first) <- holding [ov] (getMethod ov "__init__" pl)
   callWith pos f first (backTo pos (starEach (e::es) X.env)) (backToKw pos (keywordEach [] X.env))):=by rfl) :
  PE X (.Call (.Attribute (.Name "ValueError" p) "__init__" apos) (e::es) [] pos) (qev K t):=by
 subst E;intro pins s σ H Q I h;show xU (pl:=pl) (qa8 I G L hv ?_) M
 have i:∀{d:Value×List Value->Shared->Prop},d (.builtin "ValueError.__init__",[]) { s with toks:=s.toks+1 }->wpAny (model X.prog X.w) X.A (getMethod (.type "ValueError") "__init__" pl) d X.xe s:=fun{d} q=>by
  unfold getMethod;show yr ((ve_type.andThen (YJ I.kIn V.ga)).here ?_);dsimp only;rw[yG PySem.W.canon_tga];show yr (PySem.W.cls_open (hook:=none) I.kIn ve_opaque ve_type V.ga (PySem.W.Looks.now) V.su V.at_ (yv ?_));show wpAny _ _ (handedOut _) _ _ _;show PySem.W.handed_on rfl (yv q)
 show i ?_;have r:=F pos pins _ σ H _ (I.tok (s.toks+1)) h;rw[l] at r ⊢;show xN (by show(false||(backTo pos (starEach es X.env)).any (·.1))=false;rw[j]<;>rfl) (XR ?_);show thn r fun us z ⟨vs,m,b,O,a,C,y,B,g,c,q⟩=>?_;subst B;obtain⟨u,v,rfl,P,S⟩:=qdo O;cases P;obtain⟨⟨a0,N⟩,_⟩:=(show ObjOk X.prog X.w m z.heap a (XN a C none) from b.hok a _ g);show xbase_init b.kIn N c fun h' R n D=>?_;have J:=b.write (x:=a) (e:=a) (o:=XN a C none) (t':=z.toks) (by rw[g];show YK) (.inl rfl) D ⟨_,n⟩ (XN.ok n);rw[upd_id g] at J;show⟨.non,m,J,rfl,q⟩
end
structure Keep(fs zs:LI)(h h':Heap):Prop where
 keep:∀ b o,h.get? b=some o->b∉zs->b∉fs->h'.get? b=some o
 slot:∀ b o,h.get? b=some o->b∉zs->b∈fs->∃ sl,h'.get? b=some { o with slots:=sl }
structure Trc(h:Heap)(e:Addr)(C:Value)(dx:Option Addr)(T:Addr)(fl:Value):Prop where
 ex:∃ vs,h.get? e=some ⟨C,dx,.fields vs,#[]⟩/\vs[1]?=some (.ref T)/\vs[2]?=some .none
 tb:∃ ts,h.get? T=some ⟨.type "traceback",none,.fields ts,#[]⟩/\ts[3]?=some fl
 ne:T≠e
section
variable{M:Model}{A:Around}{E:Value->Shared->Prop}{s:Shared}{base:Heap}{env:Env}{outer:List Env}{L e:Addr}{C:Value}{dx:Option Addr}{vs:Array Value}
theorem qew{head:Value}{n:Bool}{Q:Unit->Shared->Prop}(p:A.frames=some (env::outer))(hl:s.heap.FunFrames base (env::outer))(D:env.frame=some L)(v:s.heap.get? e=some ⟨C,dx,.fields vs,#[]⟩)(hsz:1<vs.size)(y:vs[2]?=some .none)
  (h:∀ h' T,s.heap.objs.size<=T->Trc h' e C dx T (rawInt L)->Keep (frs (env::outer)) [e] s.heap h'->Q () { s with heap:=h' }) :
  wpAny M A (do let a <- frameOf env;let pl <- entryPlaceOf L n;let b <- EntryCells.newEntry head a .none (rawInt L) .none pl;setField (.ref e) 1 b) Q E s:=by
 have j:e∉frs (env::outer):=fun F=>by
  obtain⟨_,o,x,r⟩:=hl.mem F;rw[v] at x;cases x;show r vs rfl
 show yr (wpAny_frameOf_fun p hl D fun c m=>yr (wpAny_entryPlaceOf fun pl l=>?_));unfold EntryCells.newEntry newFields;show yr (YI ?_ (l.sizeOk5 _ _ _ _ _));have g:c.get? e=some ⟨C,dx,.fields vs,#[]⟩:=(m.2.1 e j).trans v;generalize t:([head,.ref L,.none,rawInt L,.none]++(if pl.isEmpty then List.replicate 6 Value.none else pl)).toArray=u;have B:u[3]?=some (rawInt L):=by rw[<- t];first | (simp;done) | (rcases l with rfl | ⟨_,_,_,_,_,_,_,rfl⟩<;>simp)
 have i:=yt (h:=c) { cls:=.type "traceback",dict:=none,data:=.fields u } g;have f:c.objs.size≠e:=Xa (yF g);show wpAny_setField i rfl hsz (h _ c.objs.size (Xb m.1.symm) ⟨⟨vs.setIfInBounds 1 (.ref c.objs.size),?_,by simp[hsz],by rw[Array.getElem?_setIfInBounds_ne (by decide)];show y⟩,⟨u,?_,B⟩,f⟩ ⟨fun b o q hb w=>?_,fun b o q hb w=>?_⟩)
 .rw [Y3 _ i rfl];rfl
 .rw [Yz _ _ (Yq f)];show yK c rfl
 .have d:b≠e:=fun z=>hb (by simp[z]);rw[Yz _ _ (Yq d)];show yt _ ((m.2.1 b w).trans q)
 .have d:b≠e:=fun z=>hb (by simp[z]);obtain⟨G,z⟩:=m.2.2 b o q;show⟨G,by rw[Yz _ _ (Yq d)];show yt _ z⟩
theorem qb4{Q:Unit->Shared->Prop}(a:A.frames=some (env::outer))(hl:s.heap.FunFrames base (env::outer))(c:env.frame=some L)(b:s.heap.get? e=some ⟨C,dx,.fields vs,#[]⟩)(h1:vs[1]?=some .none)(d:vs[2]?=some .none)
  (h:∀ h' T,s.heap.objs.size<=T->Trc h' e C dx T (rawInt L)->Keep (frs (env::outer)) [e] s.heap h'->Q () { s with heap:=h' }):wpAny M A (noteFrame (.ref e) env) Q E s:=by
 unfold noteFrame;simp only[c];show yr (xG b rfl h1 ?_);rw[yB (by decide)];show qew a hl c b (xy.mp h1).1 d h
theorem qcZ{T:Addr}{Q:Unit->Shared->Prop}(d:A.frames=some (env::outer))(hl:s.heap.FunFrames base (env::outer))(n:env.frame=some L)(t:Trc s.heap e C dx T .none)
  (h:∀ h' a,s.heap.objs.size<=a->Trc h' e C dx a (rawInt L)->Keep (frs (env::outer)) [e,T] s.heap h'->Q () { s with heap:=h' }):wpAny M A (noteFrame (.ref e) env) Q E s:=by
 obtain⟨⟨vs,m,h1,p⟩,⟨u,c,l⟩,g⟩:=t;unfold noteFrame;simp only[n];show yr (xG m rfl h1 ?_);rw[yG (show(Value.ref T != Value.none)=true from by simp)];show yr (xG c rfl l ?_);rw[yB (show ¬ ((Value.none==rawInt L)=true) from by simp[rawInt])];show yr (wpAny_setField c rfl (xy.mp l).1 ?_);have other:∀ b,b≠T->(s.heap.update T (Obj.mapFields (·.setIfInBounds 3 Value.none))).get? b=s.heap.get? b:=fun b hb=>Yz _ _ (Yq hb);have j:(s.heap.update T (Obj.mapFields (·.setIfInBounds 3 Value.none))).objs.size=s.heap.objs.size:=Heap.size_after_update ..;show qew (s:={ s with heap:=s.heap.update T (Obj.mapFields (·.setIfInBounds 3 Value.none)) }) d (hl.of_keeps fun b o hb i=>?_) n ((other e (Yq g)).trans m) (xy.mp h1).1 p fun h' a r t' k=>?_
 .have nb:b≠T:=fun q=>by rw[q,c] at hb;cases hb;show i u rfl
  show⟨o,(other b nb).trans hb,rfl⟩
 .show h h' a (by rw[<- j];show r) t' ⟨fun b o q hb f=>?_,fun b o q hb f=>?_⟩
  .have nb:b≠T:=fun z=>hb (by simp[z]);show k.keep b o ((other b nb).trans q) (fun z=>hb (by simp only[yx] at z;simp[z])) f
  .have nb:b≠T:=fun z=>hb (by simp[z]);show k.slot b o ((other b nb).trans q) (fun z=>hb (by simp only[yx] at z;simp[z])) f
theorem qbs{T:Addr}{Q:Unit->Shared->Prop}(t:Trc s.heap e C dx T fl)(h:∀ h',Trc h' e C dx T .none->(∀ b o,b≠T->s.heap.get? b=some o->h'.get? b=some o)->h'.objs.size=s.heap.objs.size->Q () { s with heap:=h' }) :
  wpAny M A (setFlight (.ref e) none) Q E s:=by
 obtain⟨⟨vs,f,h1,i⟩,⟨g,d,j⟩,c⟩:=t;have a:3<g.size:=(xy.mp j).1;unfold setFlight;show yr (xG f rfl h1 ?_);rw[yG (show(Value.ref T != Value.none)=true from by simp)];show wpAny_setField d rfl a (h _ ⟨⟨vs,?_,h1,i⟩,⟨g.setIfInBounds 3 .none,?_,by simp[a]⟩,c⟩ (fun b o hb q=>?_) (Heap.size_after_update ..))
 .rw [Yz _ _ c];show f
 .rw [Y3 _ d rfl];rfl
 .rw [Yz _ _ (Yq hb)];show q
end
def CX1(P:Program)(w:World):CXT:=fun b H s E c s'=>∃(a C:Addr) (dx:Option Addr) (T:Addr) (H':Hp),c=.ref a/\s'.os=s.os/\AllBare s'.gens/\Un (frs b) [] H H' s.heap s'.heap/\HOk P w H' s'.heap /\
 H' a=some (XO a C dx)/\Trc s'.heap a (.ref C) dx T .none/\s.heap.objs.size<=T/\H' T=none/\E (.ref C) dx H'
section
variable{X:Cx}{pins:List (Addr×Obj)}{σ:St}{H:Hp}{s:Shared}
theorem qbt{T:Addr}{dx:Option Addr}(I:Inv X pins σ H s)(f:H a=some (XO a C dx))(k:Keep (frs X.stack) zs s.heap h')(g:∀ b∈zs,b=a\/H b=none)(t:Trc h' a (.ref C) dx T fl):HOk X.prog X.w H h':=fun b u e=>by
 by_cases hb:b=a
 .subst hb;rw[f] at e;cases e;obtain⟨vs,q,_⟩:=t.ex;show XO.ok q
 .have d:∀ c o,H c=some o->c≠a->c∉zs/\c∉frs X.stack:=fun c o q n=>⟨fun z=>(g c z).elim n fun y=>(by rw[y] at q;cases q),fun z=>(by have y:=I.stkFree c z;rw[y] at q;cases q)⟩;show(I.hok b u e).stay (fun c v hc r=>?_) (fun _ q=>q) fun _ _ q=>q;rcases hc with rfl | hc
  .show k.keep c v r (d c _ e hb).1 (d c _ e hb).2
  .have n:c≠a:=fun z=>by rw[z,f] at hc;cases hc
   show k.keep c v r (d c _ hc n).1 (d c _ hc n).2
theorem qex{T:Addr}{dx:Option Addr}(I:Inv X pins σ H s)(h:X.ex=[])(r:H a=some (XO a C dx))(k:Keep (frs X.stack) zs s.heap h')(u:∀ b∈zs,b=a\/X.s₀.heap.objs.size<=b)(t:Trc h' a (.ref C) dx T fl) :
  Un X.fs [] X.H₀ H X.s₀.heap h':=by
 have B:=I.base;rw[h] at B;have i:∀ b o,X.s₀.heap.get? b=some o->b≠X.env.locals:=fun b o e=>yN (yj (yF e) I.ok.above);have l:∀ b o,X.s₀.heap.get? b=some o->b≠a->b∉zs:=fun b o e n z=>(u b z).elim n fun y=>absurd (yj (yF e) y) (Yd _);have p:∀ b,H b=none->b≠a:=fun b n z=>by rw[z,r] at n;cases n
 have j:∀ b o,X.s₀.heap.get? b=some o->b∉X.fs->b∉frs X.stack:=fun b o e n z=>(yA.mp (I.stkSub b z)).elim (i b o e) n;show⟨fun b o e n hb c=>?_,fun b o e n hb c=>?_,B.free,fun b o e c=>?_,B.tups,B.frzs,B.tbls⟩
 .show k.keep b o (B.keep b o e n hb c) (l b o e (p b (B.free b o e n c))) (j b o e hb)
 .obtain⟨w,q⟩:=B.slot b o e n hb c;have g:=l b o e (p b (B.free b o e n c));by_cases d:b∈frs X.stack
  .obtain⟨f,m⟩:=k.slot b _ q g d;show⟨f,m⟩
  .show⟨w,k.keep b _ q g d⟩
 .obtain⟨v,q⟩:=B.there b o e c;by_cases hb:b=a
  .subst hb;obtain⟨vs,z,_⟩:=t.ex;show⟨_,z⟩
  .have g:=l b o e hb;by_cases d:b∈frs X.stack
   .obtain⟨f,m⟩:=k.slot b _ q g d;show⟨_,m⟩
   .show⟨v,k.keep b _ q g d⟩
end
structure XOk(X:Cx)(EK:St->XK):Prop where
 pass:∀(pins:List (Addr×Obj)) (σ:St) (H:Hp) (s:Shared) (e:Value) (s':Shared),Inv X pins σ H s->CX1 X.prog X.w X.stack H s (EK σ) e s'->X.xe e s'
 rais:∀(pins:List (Addr×Obj)) (σ:St) (H:Hp) (s:Shared) (a C:Addr) (dx:Option Addr),Inv X pins σ H s->H a=some (XN a C dx)->EK σ (.ref C) dx (upd H a (XO a C dx))->X.xe (.ref a) s
 calm:X.calm=true
section
variable{P:Program}{w:World}{K:yg}{mg:Str->Option Value}{base:Heap}{N:LS}{qual:Str}{scope:Scope}{f:Addr}{cd:Value}{A:Around}{outer:List Env}{s0:Shared}{H0:Hp}{E:XK}
theorem qb5:XOk (qcp (CX1 P w) P w K mg base N qual scope f cd A outer s0 H0 E) fun _=>E where
 calm:=rfl
 pass:=by
  intro pins σ H s O s' I m;obtain⟨a,C,dx,T,H',rfl,D,l,un,B,g,t,M,v,q⟩:=m;have J:=I.call' (s':=s') (H':=H') (ch:=[]) D un B l (fun b z=>absurd z (by simp));show wpAny _ _ (leaving _ _) _ _ _;unfold leaving;show yr (qcZ (base:=base) J.ok.frames J.stack rfl t fun h' d h t' k=>?_);show qbs (s:={ s' with heap:=h' }) t' fun u i p L=>?_;have F:s0.heap.objs.size<=s.heap.objs.size:=I.sz;have j:=J.sz
  have r:Keep (frs (envOfC qual scope s0.heap.objs.size f cd::outer)) [a,T,d] s'.heap u:=by
   show⟨fun b o e z n=>?_,fun b o e z n=>?_⟩
   .simp only[yA,yS,YN,kY] at z;show p b o z.2.2 (k.keep b o e (by simp[z.1,z.2.1]) n)
   .simp only[yA,yS,YN,kY] at z;obtain⟨G,y⟩:=k.slot b o e (by simp[z.1,z.2.1]) n;show⟨G,p b _ z.2.2 y⟩
  have c:H' d=none:=J.hok.fresh h;show⟨a,C,dx,d,H',rfl,J.os,l,qex J rfl g r (fun b hb=>?_) i,qbt J g r (fun b hb=>?_) i,g,i,yi j h,c,q⟩
  .simp only[yA,yS,YN] at hb;rcases hb with rfl | rfl | rfl
   .show .inl rfl
   .show .inr (yi F M)
   .show .inr (yi j h)
  .simp only[yA,yS,YN] at hb;rcases hb with rfl | rfl | rfl
   .show .inl rfl
   .show .inr v
   .show .inr c
 rais:=by
  intro pins σ H s a C dx I e q;obtain⟨⟨a0,m⟩,_⟩:=(show ObjOk _ _ H s.heap a (XN a C dx) from I.hok a _ e);have J:Inv _ pins σ (upd H a (XO a C dx)) s:=I.write (x:=a) (e:=a) (o:=XO a C dx) (h':=s.heap) (t':=s.toks) (by rw[e];show YK) (.inl rfl) (fun _ _ _ q=>q) ⟨_,m⟩ (XO.ok m);show wpAny _ _ (leaving _ _) _ _ _;unfold leaving;show yr (qb4 (base:=base) J.ok.frames J.stack rfl m rfl rfl fun h' d h t' k=>?_);show qbs (s:={ s with heap:=h' }) t' fun u i p L=>?_;have j:=J.sz;have g:upd H a (XO a C dx) a=some (XO a C dx):=qc
  have r:Keep (frs (envOfC qual scope s0.heap.objs.size f cd::outer)) [a,d] s.heap u:=by
   show⟨fun b o e z n=>?_,fun b o e z n=>?_⟩
   .simp only[yA,yS,YN,kY] at z;show p b o z.2 (k.keep b o e (by simp[z.1]) n)
   .simp only[yA,yS,YN,kY] at z;obtain⟨G,y⟩:=k.slot b o e (by simp[z.1]) n;show⟨G,p b _ z.2 y⟩
  have c:upd H a (XO a C dx) d=none:=J.hok.fresh h;show⟨a,C,dx,d,_,rfl,J.os,J.bare,qex J rfl g r (fun b hb=>?_) i,qbt J g r (fun b hb=>?_) i,g,i,yi j h,c,q⟩
  .simp only[yA,yS,YN] at hb;rcases hb with rfl | rfl
   .show .inl rfl
   .show .inr (yi j h)
  .simp only[yA,yS,YN] at hb;rcases hb with rfl | rfl
   .show .inl rfl
   .show .inr c
end
def qey(K:yg)(c:St->XK)(te:TE):TS:=fun _ σ H=>te σ H fun x b=>∃ a C dx,x=.ref a/\b a=some (XN a C dx)/\XAt K C/\c σ (.ref C) dx (upd b a (XO a C dx))
section
variable{X:Cx}{EK:St->XK}{e:Expr}{te:TE}{pos:Pos}{K:yg}
theorem xraise{x:Sem Value}{Q:Flow->Shared->Prop}(p:A.handled=none)
  (h:wpAny M A x (fun v b=>∃ a C dx a0,v=.ref a/\K.In b.heap/\XAt K C/\b.heap.get? a=some ⟨.ref C,dx,.fields (xfs a0),#[]⟩/\E (.ref a) b) E s):wpAny M A (raiseStmt env (some x) none) Q E s:=by
 unfold raiseStmt;show yr (Ym h (fun v b h1=>?_) fun _ _ z=>z);obtain⟨a,C,dx,a0,rfl,f,c,o,n⟩:=h1;obtain⟨G,I,N,bs,l,j,sn,r,ab,m,t,w,y,B,D,F,i,q⟩:=qcW f c.xc;have e:(Value.ref C::l).contains (.type "BaseException")=true:=by rw[Yo,qaj q (by simp),X9]
 obtain⟨u,g,d,tk,H⟩:=b
 repeat (first | with_reducible show YF o ?_ | with_reducible show YF i ?_ | (with_reducible show xm i ?_;rw[e]) | wp_step)
 show wpAny_raiseNew_none p n
theorem k_raise(l:X.K=K)(f:XOk X EK)(m:PE X e te):PS X (.Raise (some e) none pos) (qey K EK te):=by
 subst l;intro pins s σ H D I h;rw[arm_exec_Raise];show yr (xT (xraise (K:=X.K) (I.ok.hd f.calm) ?_));show yr (thn (m pins s σ H _ I h) fun v i ⟨x,d,b,o,a,C,dx,j,g,c,q⟩=>yr (xT (yv ?_)));subst j;cases o;obtain⟨⟨a0,n⟩,_⟩:=(show ObjOk _ _ d i.heap a (XN a C dx) from b.hok a _ g);show⟨a,C,dx,a0,rfl,b.kIn,c,n,f.rais pins σ d i a C dx b g q⟩
end
def qez(sp:Sp)(a:St->XK)(t:TA):TE:=fun σ H Q=>t σ H fun vs b=>sp vs b Q (a σ)
def tMethS(C:Addr)(m:Str)(sp:Sp)(b:St->XK)(d:TE)(t:TA):TE:=fun σ H Q=>d σ H fun x a=>MeR C m x a (t σ a fun vs c=>sp (x::vs) c Q (b σ))
def tMakeS(C:Addr)(sp:Sp)(b:St->XK)(t:TA):TE:=fun σ H Q=>t σ H fun vs a=>∀ x dx,a x=none->a dx=none->dx≠x ->
 sp (.ref x::vs) (upd (upd a dx (.own x)) x (.ins C dx [])) (fun v c=>v=.non/\Q (.ref x) c) (b σ)
theorem FnOk.any{K:yg}{mg:Str->Option Value}{base:Heap}{k:Nat}{CX:CXT}(F:FnOk P w K mg base CX0 k f fd ps sp):FnOk P w K mg base CX k f fd ps sp:=by
 show⟨F.len,fun A a s H args us vs Q E c b hb hv d=>Y6 (F.run A a s H args us vs Q E c b hb hv d) fun r s' q=>?_⟩
 cases r with
 | ok fl=>cases fl<;>show q
 | error e=>show q.elim
structure MethOk(P:Program)(w:World)(K:yg)(mg:Str->Option Value)(base:Heap)(CX:CXT)(k:Nat)(C:Addr)(m:Str)(ps:LS)(sp:Sp):Prop where
 ex:∃ f fd,FnOk P w K mg base CX k f fd ps sp/\Meth K C m f/\Binds K fd ps []
 cl:Cls K C
structure MakeOk(P:Program)(w:World)(K:yg)(mg:Str->Option Value)(base:Heap)(CX:CXT)(k:Nat)(C:Addr)(x:Str)(ps:LS)(sp:Sp):Prop where
 ex:∃ f fd,FnOk P w K mg base CX k f fd ps sp/\Mk K C f/\Binds K fd ps []
 mg_:mg x=some (.ref C)
structure XMakeOk(P:Program)(w:World)(K:yg)(mg:Str->Option Value)(base:Heap)(k:Nat)(C:Addr)(x:Str)(ps:LS)(sp:Sp):Prop where
 ex:∃ f fd,FnOk P w K mg base CX0 k f fd ps sp/\XMk K C f/\Binds K fd ps []
 mg_:mg x=some (.ref C)
section
variable{X:Cx}{EK:St->XK}{k:Nat}{f C:Addr}{fd:FuncData}{ps:LS}{sp:Sp}{x m:Str}{p pos apos:Pos}{e o:Expr}{es:List Expr}{ta:TE}{t:TA}
theorem run_fnS{Q:VK}{vs:List V}(F:FnOk X.prog X.w X.K X.mg X.base (CX1 X.prog X.w) k f fd ps sp)(d:Room k X.A)(hb:Binds X.K fd ps [])(c:XOk X EK)
  (I:Inv X pins σ H s) (r:Vals vs us) (h:sp vs H Q (EK σ)):wpAny (model X.prog X.w) X.A (call (.ref f) us) (EP X pins σ Q) X.xe s:=by
 have hl:(us++[]).length=ps.length:=by rw[Yt,<- r.length];show F.len _ _ _ _ h
 have b:=hb s us I.kIn hl;rw[Yt] at b;show xj (Y6 (F.run X.A X.stack s H ⟨us,[]⟩ us vs Q (EK σ) d I.env0 b r h) fun r s' a=>?_)
 cases r with
 | error e=>show c.pass pins σ H s e s' I a
 | ok fl =>
  cases fl with
  | ret u=>show I.after a
  | _=>show False.elim a
theorem qcu(D:DefOk X.prog X.w X.K X.mg X.base (CX1 X.prog X.w) k x ps sp)(n:Room k X.A)(d:XOk X EK)(g:PA X (e::es) t)(j:Gl X x:=by rfl)(a:(x==("__debug__":Str))=false:=by decide)
  (i:starEach (e::es) X.env=(false,eval e X.env)::starEach es X.env:=by rfl) (b:(backTo pos (starEach es X.env)).any (·.1)=false:=by rfl):PE X (.Call (.Name x p) (e::es) [] pos) (qez sp EK t):=by
 obtain⟨f,fd,F,m,l,hb⟩:=D.ex;intro pins s σ H Q I h;show YR (zB I j m ?_ a);show Y4 (h₀:=X.base) I.ok.mod.kin l (thn (g pos pins s σ H _ I h) fun us u ⟨vs,o,c,r,q⟩=>⟨c.kIn,?_⟩) i b;show run_fnS F n hb d c r q
theorem pe_xm(D:XMakeOk X.prog X.w X.K X.mg X.base k C x ps sp)(h:Room (k+1) X.A)(c:PA X (e::es) t)(g:Gl X x:=by rfl)(a:(x==("__debug__":Str))=false:=by decide)
  (d:starEach (e::es) X.env=(false,eval e X.env)::starEach es X.env:=by rfl) (b:(backTo pos (starEach es X.env)).any (·.1)=false:=by rfl):PE X (.Call (.Name x p) (e::es) [] pos) (qdL C sp E0 t):=by
 obtain⟨f,fd,F,M,hb⟩:=D.ex;show pe_xmake M F h g D.mg_ hb qy c a d b
theorem qX(D:MethOk X.prog X.w X.K X.mg X.base CX0 k C m ps sp)(h:Room k X.A)(d:PE X o ta)(c:PA X (e::es) t)
  (b:starEach (e::es) X.env=(false,eval e X.env)::starEach es X.env:=by rfl) (a:(backTo pos (starEach es X.env)).any (·.1)=false:=by rfl)
  (i:eval (.Call (.Attribute o m apos) (e::es) [] pos) X.env=(do
   let ov <- eval o X.env
   standAt apos.atName
   let (f,first) <- holding [ov] (getMethod ov m pl)
   callWith pos f first (backTo pos (starEach (e::es) X.env)) (backToKw pos (keywordEach [] X.env))):=by rfl) :
  PE X (.Call (.Attribute o m apos) (e::es) [] pos) (qdB C m sp [] E0 ta t):=by
 obtain⟨f,fd,F,g,hb⟩:=D.ex;show pe_meth (pl:=pl) d D.cl g F h hb .nil qy c b a i
theorem qaX(D:MethOk X.prog X.w X.K X.mg X.base CX0 k C m ps sp)(c:Room k X.A)(a:PE X o ta)
  (d:eval (.Call (.Attribute o m apos) [] [] pos) X.env=(do
   let ov <- eval o X.env
   standAt apos.atName
   let (f,first) <- holding [ov] (getMethod ov m pl)
   callWith pos f first (backTo pos (starEach [] X.env)) (backToKw pos (keywordEach [] X.env))):=by rfl) :
  PE X (.Call (.Attribute o m apos) [] [] pos) (qdB C m sp [] E0 ta qfi):=by
 obtain⟨f,fd,F,b,hb⟩:=D.ex;show pe_meth0 (pl:=pl) a D.cl b F c hb .nil qy d
end
section
variable{P:Program}{w:World}{K:yg}{mg:Str->Option Value}{base:Heap}
theorem Fun.ok1{st:Stmt}{k:Nat}(F:Fun K x qual st f fd)(S:FnScope N ps (qg st))(len:∀ vs H Q E,sp vs H Q E->vs.length=ps.length)
  (c:∀(b:Value) (A:Around) (a:List Env) (s:Shared) (H:Hp) (vs:List V) (Q:VK) (E:XK),Room k (A.deeper (envOfC qual (qg st) s.heap.objs.size f b))->sp vs H Q E ->
   ∃ t,PSs (qcp (CX1 P w) P w K mg base N qual (qg st) f b A a s H E) (jE st) t/\t { nx:=fun _ H'=>Q .non H',rt:=Q } (start N vs) H):FnOk P w K mg base (CX1 P w) (k+1) f fd ps sp:=by
 obtain⟨m,od,kV,g,n,l,b,ct,j,rfl,i,d⟩:=F.ex;show qec i d S len fun A a s H vs Q E h e=>c b A a s H vs Q E h e
end
noncomputable abbrev Cx.tried(X:Cx)(pn:List (Addr×Obj))(E:Value->Shared->Prop):Cx:={ X with pn:=pn,xe:=E }
noncomputable abbrev Cx.hand(X:Cx)(a:Addr):Cx:={ X with A:=X.A.mark (some (.ref a)),calm:=false,xe:=fun _ _=>False }
section
variable{X:Cx}{pins pins':List (Addr×Obj)}{σ:St}{H:Hp}{s:Shared}{E:Value->Shared->Prop}{a:Addr}
theorem Inv.tried(I:Inv X pins σ H s)(E:Value->Shared->Prop):Inv (X.tried (X.pn++pins) E) [] σ H s:=
 ⟨⟨I.ok.mod,I.ok.kind,I.ok.glob,I.ok.blt,I.ok.above,I.ok.inj,I.ok.has,I.ok.cab,I.ok.hd,I.ok.frames,I.ok.stk,I.ok.exf,I.ok.bs,I.ok.bsz,I.ok.noex,I.ok.exfs,I.ok.funs,I.ok.frf⟩,I.os,I.bare,I.base,I.loc,I.cell,I.free,I.freeC,
  fun p a=>I.pin p (by have a:p∈(X.pn++pins)++[]:=a;rw[Yt] at a;show a),I.hok,I.len⟩
theorem Inv.untried(I:Inv (X.tried (X.pn++pins) E) pins' σ H s):Inv X pins σ H s:=
 ⟨⟨I.ok.mod,I.ok.kind,I.ok.glob,I.ok.blt,I.ok.above,I.ok.inj,I.ok.has,I.ok.cab,I.ok.hd,I.ok.frames,I.ok.stk,I.ok.exf,I.ok.bs,I.ok.bsz,I.ok.noex,I.ok.exfs,I.ok.funs,I.ok.frf⟩,I.os,I.bare,I.base,I.loc,I.cell,I.free,I.freeC,
  fun p a=>I.pin p (Yb _ a),I.hok,I.len⟩
theorem Inv.hand(I:Inv X pins σ H s)(a:Addr):Inv (X.hand a) pins σ H s:=
 ⟨⟨I.ok.mod,I.ok.kind,I.ok.glob,I.ok.blt,I.ok.above,I.ok.inj,I.ok.has,I.ok.cab,(fun h=>nomatch h),I.ok.frames,I.ok.stk,I.ok.exf,I.ok.bs,I.ok.bsz,I.ok.noex,I.ok.exfs,I.ok.funs,I.ok.frf⟩,I.os,I.bare,I.base,I.loc,I.cell,I.free,I.freeC,I.pin,I.hok,I.len⟩
theorem Inv.unhand(hc:X.calm=true->X.A.handled=none)(I:Inv (X.hand a) pins σ H s):Inv X pins σ H s:=
 ⟨⟨I.ok.mod,I.ok.kind,I.ok.glob,I.ok.blt,I.ok.above,I.ok.inj,I.ok.has,I.ok.cab,hc,I.ok.frames,I.ok.stk,I.ok.exf,I.ok.bs,I.ok.bsz,I.ok.noex,I.ok.exfs,I.ok.funs,I.ok.frf⟩,I.os,I.bare,I.base,I.loc,I.cell,I.free,I.freeC,I.pin,I.hok,I.len⟩
structure Loose(X:Cx)(pins:List (Addr×Obj))(H:Hp)(T:Addr):Prop where
 hn:H T=none
 lo:X.s₀.heap.objs.size<=T
 nl:T≠X.env.locals
 nf:T∉X.fs
 nc:∀ x c,X.env.cells.lookup x=some c->c≠T
 np:∀ p∈X.pn++pins,p.1≠T
theorem Inv.loose(I:Inv X pins σ H s){T:Addr}(a:s.heap.objs.size<=T)(hn:H' T=none):Loose X pins H' T where
 hn:=hn
 lo:=yi I.sz a
 nl:=Xa (yj I.lt a)
 nf:=I.nofs a
 nc:=fun x c e=>by
  obtain⟨v,o,b,_⟩:=I.cell x c e;show yN (yj (yF b) a)
 np:=fun p d=>yN (yj (yF (I.pin p d).1) a)
theorem Inv.noted{T:Addr}{dx:Option Addr}(I:Inv X pins σ H s)(f:H a=some (XO a C dx))(k:Keep (frs X.stack) zs s.heap h')(h:∀ b∈zs,b=a\/Loose X pins H b)(t:Trc h' a (.ref C) dx T fl) :
  Inv X pins σ H { s with heap:=h' }:=by
 have j:=qbt I f k (fun b hb=>(h b hb).imp (fun e=>e) fun l=>l.hn) t;have i:∀ b,H b=none->b∉zs.filter (fun b=>decide (b≠a))->b∉zs:=fun b n z y=>z (yp.mpr ⟨y,yD fun e=>by rw[e,f] at n;cases n⟩);show I.call (g':=s.gens) (t':=s.toks) (d':=s.drawn) (ch:=zs.filter fun b=>decide (b≠a)) ⟨fun b o e n hb d=>k.keep b o e (i b n d) hb,fun b o e n hb d=>k.slot b o e (i b n d) hb,fun _ _ _ n _=>n,fun b o e d=>?_,fun _ _ e=>e,fun _ _ _ e=>e,
  fun b ps e=>⟨#[],by rw[e];simp⟩⟩ j I.bare fun b hb=>?_
 .by_cases c:b=a
  .subst c;obtain⟨vs,q,_⟩:=t.ex;show⟨_,q⟩
  .have z:b∉zs:=fun y=>d (yp.mpr ⟨y,yD c⟩);by_cases g:b∈frs X.stack
   .obtain⟨m,q⟩:=k.slot b o e z g;show⟨_,q⟩
   .show⟨o,k.keep b o e z g⟩
 .obtain⟨y,q⟩:=yp.mp hb;rcases h b y with e | l
  .show absurd e (yk q)
  .show⟨.inr l.lo,l.nl,l.nc,l.np⟩
theorem unbind_ok{i:Nat}{Q:Unit->Shared->Prop}(I:Inv X pins σ H s)(J:X.N.Nodup)(B:X.N[i]?=some x)(f:X.env.scope.names.lookup x=some .local)(hv:σ[i]?=some (some v))
  (h:∀ s',Inv X pins (σ.set i none) H s'->Q () s'):wpAny M A (unbindName X.env x) Q E s:=by
 obtain⟨m,L,hl⟩:=id I.loc;obtain⟨u,ru,P⟩:=hl i x v B hv (.inl f)
 have K:m x=some u:=by
  rcases P with⟨_,e⟩ | ⟨k,_⟩
  .show e
  .have k':X.env.scope.names.lookup x=some .cell\/X.env.scope.names.lookup x=some .free:=k;rw[f] at k';rcases k' with z | z<;>cases z
 have r:(X.env.scope.kind==.class||(X.env.scope.kind==.module&&X.env.locals != X.env.globals))=false:=by rw[I.ok.kind];rfl
 show wpAny_unbindName_local f L K r fun h' u' F g=>?_;have a:∀ b o,X.s₀.heap.get? b=some o->b≠X.env.locals:=fun b o e=>yN (yj (yF e) I.ok.above);show h _ ⟨I.ok,I.os,I.bare,⟨fun b o e n hb f=>?_,fun b o e n hb f=>?_,I.base.free,fun b o e f=>?_,I.base.tups,I.base.frzs,I.base.tbls⟩,⟨_,F,fun j y Z l t G=>?_⟩,fun y c e=>?_,I.free,I.freeC,fun p O=>?_,fun b U e=>?_,by simpa using I.len⟩
 .show(g.2 b (a b o e)).trans (I.base.keep b o e n hb f)
 .obtain⟨Y,l⟩:=I.base.slot b o e n hb f;show⟨Y,(g.2 b (a b o e)).trans l⟩
 .obtain⟨T,l⟩:=I.base.there b o e f;show⟨T,(g.2 b (a b o e)).trans l⟩
 .by_cases C:j=i
  .subst C;have D:j<σ.length:=by rw[I.len];show(yc.mp B).1
   rw[xM D] at t;cases t
  .rw [xZ (Yq C)] at t;obtain⟨w,W,q⟩:=hl j y Z l t G;show⟨w,W,?_⟩;rcases q with⟨k,e⟩ | ⟨k,c,e,z⟩
   .have S:y≠x:=fun e=>C (qbn J l (e ▸ B));show .inl ⟨k,by simp[S,e]⟩
   .show .inr ⟨k,c,e,z.sameBut g (I.cne y c e)⟩
 .obtain⟨w,z⟩:=I.cell y c e;show⟨w,z.sameBut g (I.cne y c e)⟩
 .obtain⟨e,n,ne,R,d⟩:=I.pin p O;show⟨(g.2 p.1 ne).trans e,n,ne,R,d⟩
 .show(I.hok b U e).stay (fun c w hc q=>(g.2 c ?_).trans q) (fun _ q=>q) fun _ _ q=>q;rintro rfl;rcases hc with rfl | hc
  .rw [I.free] at e;cases e
  .rw [I.free] at hc;cases hc
end
structure Held(X:Cx)(pins:List (Addr×Obj))(H:Hp)(h:Heap)(a C:Addr)(dx:Option Addr):Prop where
 at_:H a=some (XO a C dx)
 tr:∃ T,Trc h a (.ref C) dx T .none/\Loose X pins H T
def PH(X:Cx)(a C:Addr)(dx:Option Addr)(b:List ExceptHandler)(c:TS):Prop:=
 ∀(pins:List (Addr×Obj)) (s:Shared) (σ:St) (H:Hp) (D:Ends),Inv X pins σ H s->Held X pins H s.heap a C dx->c D σ H->wpAny (model X.prog X.w) X.A (handleBy (.ref a) X.env b) (SP X pins D) X.xe s
def thNil:TS:=fun _ _ _=>False
def thAs(K:yg)(a C D:Addr)(i:Nat)(d rest:TS):TS:=fun Z σ H=>∃ b,PySem.W.mroIn K C (.ref D)=some b/\XAt K D/\XAt K C /\
 if b=true then d { nx:=fun c H'=>Z.nx (c.set i none) H',rt:=Z.rt,bk:=fun c H'=>Z.bk (c.set i none) H',ct:=fun c H'=>Z.ct (c.set i none) H' } (σ.set i (some (.ref a))) H else rest Z σ H
theorem xmatch{K:yg}{o:Obj}{Q:Bool->Shared->Prop}(X:K.In s.heap)(m:s.heap.get? a=some o)(hc:o.cls=.ref C)(d:XAt K D)(hb:PySem.W.mroIn K C (.ref D)=some b)(q:Q b s) :
  wpAny M A (excMatches (.ref a) (.ref D)) Q E s:=by
 obtain⟨z,F,N,bs,i,h,sn,n,ab,j,p,u,v,w,x,y,e,l⟩:=qcW X d.xc;have c:(Value.ref D::i).contains (.type "BaseException")=true:=by rw[Yo,qaj l (by simp),X9]
 have f:=tc_notTuple;have L:=xl (M:=M) X hb;obtain⟨t,g,r,tk,B⟩:=s;unfold excMatches
 repeat (first | with_reducible show YF e ?_ | (with_reducible show YF m ?_;rw[hc]) | (with_reducible show xm e ?_;rw[c]) | with_reducible show L.at ?_ | wp_step)
 cases b<;>(wp_walk;show q)
section
variable{X:Cx}{a C D:Addr}{dx:Option Addr}{c n:Str}{cp pos:Pos}{b0:Stmt}{body:List Stmt}{rest:List ExceptHandler}{tb tr:TS}{i:Nat}{K:yg}
theorem ph_nil:PH X a C dx [] thNil:=fun _ _ _ _ _ _ _ h=>h.elim
theorem suite_as{R:Result->Shared->Prop}{e:Value}
  (h:wpAny (model prog w) A (setFlight e none) (fun _ a=>wpAny (model prog w) A (bindName env n e) (fun _ b=>wpAny (model prog w) A (execs (b0::body) env) (fun f c=>R (.ok f) c) (fun _ _=>False) b) (fun _ _=>False) a) (fun _ _=>False) s) :
  codeAny (model prog w) A (.handlers e [.ExceptHandler none (some n) (b0::body) pos] env) R s:=by
 show kP ?_;show wpAny _ A (do return Fin.done (<- (handleWith e env [.ExceptHandler none (some n) (b0::body) pos]).onRaise (fun x=>do noteFrame x env;theTreesLotGoes x))) _ _ s;show yr (wpAny_noted ?_);unfold handleWith;show yr (xT (yr (Ym h (fun _ a h1=>yr (Ym h1 (fun _ b d=>yr (ky (Ym d (fun f c g=>yv (yv g)) fun _ _ z=>z.elim))) fun _ _ z=>z.elim)) fun _ _ z=>z.elim)))
theorem ph_as(W:X.K=K)(y:X.N.Nodup)(x:X.N[i]?=some n)(m:X.env.scope.names.lookup n=some .local)(hg:Gl X c)(hm:X.mg c=some (.ref D))(hb:PSs (X.hand a) (b0::body) tb)(hr:PH X a C dx rest tr)
  (E:(c==("__debug__":Str))=false:=by decide):PH X a C dx (.ExceptHandler (some (.Name c cp)) (some n) (b0::body) pos::rest) (thAs K a C D i tb tr):=by
 subst W;intro pins s σ H Z I hl h;obtain⟨b,B,xd,xc,q⟩:=h;obtain⟨vs,Y⟩:=(show IsX H a C dx from .inr hl.at_).get I.hok;show wpAny_handleBy_cons (codeAny_handlers_test ?_) (by intro q;cases q);have U:=I.hand a;show zB (X:=X.hand a) U hg hm (xmatch I.kIn Y rfl xd B ?_) E
 cases b with
 | false=>show hr pins s σ H Z I hl q
 | true =>
  obtain⟨T,t,lo⟩:=hl.tr;show suite_as (qbs t fun h1 t1 M aa=>?_);have kk:Keep (frs X.stack) [T] s.heap h1:=⟨fun b o e z _=>M b o (by simpa using z) e,fun b o e z _=>⟨o.slots,M b o (by simpa using z) e⟩⟩;have P:=I.noted hl.at_ kk (fun b hb=>.inr (by rw[yx.mp hb];show lo)) t1;have R:=P.hand a;show wpAny_bindName (qaF (X:=X.hand a) R y x (.inl m) (v:=.ref a) rfl (fun s2 S=>?_) (.inr m));have q':tb { nx:=fun d H'=>Z.nx (d.set i none) H',rt:=Z.rt,bk:=fun d H'=>Z.bk (d.set i none) H',ct:=fun d H'=>Z.ct (d.set i none) H' } (σ.set i (some (.ref a))) H:=q;show thn (hb pins s2 _ H _ S q') fun f O p=>?_
  have j:∀{d:St} {H':Hp} {Q:Unit->Shared->Prop},Inv (X.hand a) pins d H' O->(∀ l,Inv X pins (d.set i none) H' l->Q () l)->wpAny (model X.prog X.w) X.A (do bindName X.env n .none;unbindBehindTheSuite X.env n pos) Q X.xe O:=fun{d H' Q} J k=>by
   have G:=Inv.unhand I.ok.hd J;have F:i<d.length:=by rw[G.len];show(yc.mp x).1
   show yr (wpAny_bindName (qaF G y x (.inl m) (v:=.non) rfl (fun l g=>?_) (.inr m)));show wpAny_onRaise (unbind_ok g y x m (v:=.non) (by rw[xM F]) fun s5 L=>k s5 ?_);rw[List.set_set] at L;show L
  cases f with
  | next=>obtain⟨d,H',J,z⟩:=p;show j J fun l g=>⟨_,H',g,z⟩
  | brk=>obtain⟨d,H',J,z⟩:=p;show j J fun l g=>⟨_,H',g,z⟩
  | cont=>obtain⟨d,H',J,z⟩:=p;show j J fun l g=>⟨_,H',g,z⟩
  | ret u=>obtain⟨v,d,H',J,r,z⟩:=p;show j J fun l g=>⟨v,_,H',g,r,z⟩
end
def tTry(X:Cx)(body:List Stmt)(f:List ExceptHandler)(te:TS):TS:=fun D σ H=>∃(c:St->XK) (d:TS),(∀ pn xe,XOk (X.tried pn xe) c->PSs (X.tried pn xe) body d) /\
 d { nx:=te D,rt:=D.rt,bk:=D.bk,ct:=D.ct } σ H/\∀(a C:Addr) (dx:Option Addr) (b:St) (H':Hp),c b (.ref C) dx H'->H' a=some (XO a C dx)->∃ e,PH X a C dx f e/\e D b H'
section
variable{X:Cx}{body orelse:List Stmt}{h0:ExceptHandler}{hs:List ExceptHandler}{pos:Pos}{te:TS}
theorem ps_try(hc:X.calm=true)(j:X.stack=X.env::X.outer)(y:X.env.frame=some X.env.locals)(ho:PSs X orelse te):PS X (.Try body (h0::hs) orelse [] pos) (tTry X body (h0::hs) te):=by
 intro pins s σ H D I h;obtain⟨R,tb,hb,q,hh⟩:=h;have E:X.A.frames=some (X.env::X.outer):=by rw[<- j];show I.ok.frames
 let m:Value->Shared->Prop:=fun e d=>∃(a C:Addr) (dx:Option Addr) (c:St) (H':Hp),e=.ref a/\Inv X pins c H' d/\H' a=some (XO a C dx)/\R c (.ref C) dx H' /\
  ((∃ T,Trc d.heap a (.ref C) dx T .none/\Loose X pins H' T)\/∃ a0,d.heap.get? a=some ⟨.ref C,dx,.fields (xfs a0),#[]⟩)
 have Y:XOk (X.tried (X.pn++pins) m) R:=by
  show⟨fun pins' c L d e s2 J l=>?_,fun pins' c L d a C dx J e z=>?_,hc⟩
  .obtain⟨a,C,dx,T,H',rfl,P,N,un,O,n,t,hT,M,z⟩:=l;have p:=J.call' (s':=s2) (H':=H') (ch:=[]) P un O N (fun b z=>absurd z (by simp));have G:=Inv.untried J;show⟨a,C,dx,c,H',rfl,Inv.untried p,n,z,.inl ⟨T,t,G.loose hT M⟩⟩
  .have G:=Inv.untried J;obtain⟨⟨a0,l⟩,_⟩:=(show ObjOk _ _ L d.heap a (XN a C dx) from G.hok a _ e);have p:Inv X pins c (upd L a (XO a C dx)) d:=G.write (x:=a) (e:=a) (o:=XO a C dx) (h':=d.heap) (t':=d.toks) (by rw[e];show YK) (.inl rfl) (fun _ _ _ q=>q) ⟨_,l⟩ (XO.ok l);show⟨a,C,dx,c,_,rfl,p,qc,z,.inr ⟨a0,l⟩⟩
 have B:=hb (X.pn++pins) m Y [] s σ H _ (I.tried m) q;show wpAny_Try_except (Ym B (fun f d K=>?_) fun e d he=>?_)
 .cases f with
  | next=>obtain⟨c,H',J,z⟩:=K;show ho pins d c H' D (Inv.untried J) z
  | brk=>obtain⟨c,H',J,z⟩:=K;show⟨c,H',Inv.untried J,z⟩
  | cont=>obtain⟨c,H',J,z⟩:=K;show⟨c,H',Inv.untried J,z⟩
  | ret u=>obtain⟨v,c,H',J,r,z⟩:=K;show⟨v,c,H',Inv.untried J,r,z⟩
 .obtain⟨a,C,dx,c,H',rfl,J,n,z,tt⟩:=he;obtain⟨th,hp,hq⟩:=hh a C dx c H' z n;have F:d.heap.FunFrames X.base (X.env::X.outer):=by rw[<- j];show J.stack
  have go:∀(h':Heap) (i:Addr) (zs:LI),d.heap.objs.size<=i->Trc h' a (.ref C) dx i (rawInt X.env.locals)->Keep (frs (X.env::X.outer)) zs d.heap h'->(∀ b∈zs,b=a\/Loose X pins H' b) ->
    wpAny (model X.prog X.w) X.A (setFlight (.ref a) none) (fun _ s3=>wpAny (model X.prog X.w) X.A (handleBy (.ref a) X.env (h0::hs)) (SP X pins D) X.xe s3) X.xe { d with heap:=h' }:=fun h' i zs g t' k hz=>by
   have lo:=J.loose g (J.hok.fresh g);have p:=J.noted n (by rw[j];show k) hz t';show qbs (s:={ d with heap:=h' }) t' fun Z U S aa=>?_;have kk:Keep (frs X.stack) [i] h' Z:=⟨fun b o e z _=>S b o (by simpa using z) e,fun b o e z _=>⟨o.slots,S b o (by simpa using z) e⟩⟩;have W:=p.noted n kk (fun b hb=>.inr (by rw[yx.mp hb];show lo)) U;show hp pins _ c H' D W ⟨n,i,U,lo⟩ hq
  rcases tt with⟨T,t,lo⟩ | ⟨a0,l⟩
  .show qcZ (base:=X.base) E F y t fun h' i g t' k=>go h' i _ g t' k fun b hb=>?_;simp only[yA,yS,YN] at hb;rcases hb with rfl | rfl
   .show .inl rfl
   .show .inr lo
  .show qb4 (base:=X.base) E F y l rfl rfl fun h' i g t' k=>go h' i _ g t' k fun b hb=>?_;show .inl (yx.mp hb)
end
def TyX(K:yg)(H:Hp)(x:V)(t:Value):Prop:=TyOf K H x t\/∃ a C dx,x=.ref a/\t=.ref C/\IsX H a C dx/\XAt K C/\∀ d,dx=some d->∃ fs,H d=some (.xd fs)
theorem TyX.kit{x:V}(I:Inv X pins σ H s)(e:RelV x u)(ty:TyX X.K H x t):∃ P:Heap->Prop,PySem.W.KitX X.K u t P/\P s.heap/\u≠.builtin "__main__.__loader__#opaque":=by
 rcases ty with ty | ⟨a,C,dx,rfl,rfl,hx,c,hd⟩
 .show ty.kit I e
 .cases e;obtain⟨vs,b⟩:=hx.get I.hok
  cases dx with
  | none=>show⟨_,qcX (od:=none) c,⟨b,rfl,rfl,YK⟩,fun z=>nomatch z⟩
  | some d =>
   obtain⟨fs,f⟩:=hd d rfl;obtain⟨od,g,h1,_⟩:=qeu I f;show⟨_,qcX (od:=some od) c,⟨b,rfl,rfl,h1⟩,fun z=>nomatch z⟩
def qfs(K:yg):List V->Hp->VK->Prop:=fun xs H Q=>∃ x y t c b,xs=[x,y]/\TyX K H x t/\qb0 y=some c/\PySem.W.kitOne K t c=some b/\Q (.bl b) H
def qeA(K:yg):List V->Hp->VK->Prop:=fun xs H Q=>∃ x p ys t a b,xs=[x,.ref p]/\TyX K H x t/\H p=some (.tup ys)/\ys.map qb0=a.map some/\PySem.W.kitAny K t a=some b/\Q (.bl b) H
section
variable{X:Cx}{K:yg}
theorem zG(a:X.K=K):jX X (.builtin "isinstance") (qfs K):=by
 subst a;intro pins s σ H xs us Q I r h;obtain⟨x,y,t,c,b,rfl,ty,d,hb,q⟩:=h;obtain⟨u,v,rfl,f,g⟩:=qdo r;have e:=qbf d g;subst e;obtain⟨P,Z,p,ne⟩:=ty.kit I f;show PySem.W.kia_one Z I.kIn p hb ne fun tk=>⟨.bl b,H,I.tok tk,rfl,q⟩
theorem qdM(g:X.K=K):jX X (.builtin "isinstance") (qeA K):=by
 subst g;intro pins s σ H xs us Q I r h;obtain⟨x,p,ys,t,A,b,rfl,ty,l,m,hb,q⟩:=h;obtain⟨u,v,rfl,z,f⟩:=qdo r;cases f;obtain⟨P,Z,y,ne⟩:=ty.kit I z;obtain⟨_,its,f,o,j,hc,n,i⟩:=(show ObjOk X.prog X.w H s.heap p (.tup ys) from I.hok p _ l);have e:=qaW m f;subst e;obtain⟨c,B,dt,C⟩:=o;have a:c=.type "tuple":=hc;have d:dt=.seq its.toArray n:=i;subst a d;show PySem.W.kia_tup Z I.kIn y j hb ne fun tk=>⟨.bl b,H,I.tok tk,rfl,q⟩
end
mutual
inductive EqD(K:yg)(H:Hp):Nat->V->V->Bool->Prop
 | flat {n:Nat} {x y:V} (fx:zQ x=true) (fy:zQ y=true):EqD K H n x y (eqV x y)
 | self {n:Nat} {a:Addr}:EqD K H n (.ref a) (.ref a) true
 | deep {n:Nat} {a b:Addr} {k:Bool} (h:EqT K H n a b k) (ne:a≠b):EqD K H n (.ref a) (.ref b) k
inductive EqT(K:yg)(H:Hp):Nat->Addr->Addr->Bool->Prop
 | lst {n:Nat} {a b:Addr} {xs ys:List V} {e:Nat->Bool} (ha:SqL K H a xs) (hb:SqL K H b ys) (hl:xs.length=ys.length) (he:∀ j x y,xs[j]?=some x->ys[j]?=some y->EqD K H n x y (e j)):EqT K H (n+1) a b ((List.range xs.length).all e)
 | lstL {n:Nat} {a b:Addr} {xs ys:List V} (ha:SqL K H a xs) (hb:SqL K H b ys) (hl:xs.length≠ys.length):EqT K H (n+1) a b false
 | tup {n:Nat} {a b:Addr} {xs ys:List V} {e:Nat->Bool} (ha:SqT K H a xs) (hb:SqT K H b ys) (he:∀ j x y,xs[j]?=some x->ys[j]?=some y->EqD K H n x y (e j)):EqT K H (n+1) a b ((List.range (min xs.length ys.length)).all e&&xs.length==ys.length)
 | lt {n:Nat} {a b:Addr} {xs ys:List V} (ha:SqL K H a xs) (hb:SqT K H b ys):EqT K H (n+1) a b false
 | tl {n:Nat} {a b:Addr} {xs ys:List V} (ha:SqT K H a xs) (hb:SqL K H b ys):EqT K H (n+1) a b false
end
theorem jg:∀{xs:List V} {us:List Value} {j:Nat} {u:Value},Vals xs us->us[j]?=some u->∃ x,xs[j]?=some x/\RelV x u
 | _,_,_,_,.nil,e=>by simp at e
 | _,_,0,_,.cons r _,e=>by simp at e;subst e;show⟨_,rfl,r⟩
 | _,_,j+1,u,.cons _ t,e=>by
  obtain⟨x,h1,a⟩:=jg (j:=j) (u:=u) t (by simpa using e);show⟨x,by simpa using h1,a⟩
section
variable{X:Cx}{pins:List (Addr×Obj)}{σ:St}{H:Hp}{s:Shared}
theorem qcv(I:Inv X pins σ H s):∀ n,(∀(A:Around) (x y:V) (k:Bool) (u v:Value),EqD X.K H n x y k->RelV x u->RelV y v->A.units+n<cLine->SeqAt.EqAt A s u v k)/\(∀(A:Around) (a b:Addr) (k:Bool),EqT X.K H n a b k->A.units+n<cLine->SeqAt.RcAt A s (.ref a) (.ref b) k):=by
 intro n
 induction n with
 | zero =>
  have G:∀(A:Around) (a b:Addr) (k:Bool),EqT X.K H 0 a b k->A.units+0<cLine->SeqAt.RcAt A s (.ref a) (.ref b) k:=fun A a b k h=>by cases h
  show⟨fun A x y k u v h g i B=>?_,G⟩
  cases h with
  | flat fx fy=>show qdF g i fx fy
  | self=>cases g;cases i;show XV _
  | deep h ne=>cases h
 | succ n ih =>
  have E:∀(A:Around) (a b:Addr) (k:Bool),EqT X.K H (n+1) a b k->A.units+(n+1)<cLine->SeqAt.RcAt A s (.ref a) (.ref b) k:=fun A a b k h B=>by
   have f:A.units<cLine:=by lk
   have o:A.in1.units+n<cLine:=by show A.units+1+n<cLine;lk
   cases h with
   | @lst _ _ _ xs ys e ha hb hl he =>
    obtain⟨its,r,pl,q⟩:=I.list ha;obtain⟨c,m,d,l⟩:=I.list hb;have p:xs.length=its.toArray.size:=by rw[yw];show r.length
    have t:ys.length=c.toArray.size:=by rw[yw];show m.length
    rw[p];show SeqAt.RcAt.lists pl.isList d.isList (by rw[<- p,<- t,hl]) f fun j h1 F=>?_;have w:its[j]?=some its.toArray[j]:=by simp
    have z:c[j]?=some c.toArray[j]:=by simp
    obtain⟨x,C,g⟩:=jg r w;obtain⟨y,D,i⟩:=jg m z;show ih.1 A.in1 x y (e j) _ _ (he j x y C D) g i o
   | @lstL _ _ _ xs ys ha hb hl =>
    obtain⟨its,r,pl,q⟩:=I.list ha;obtain⟨c,m,d,l⟩:=I.list hb;show SeqAt.RcAt.lists_lengths pl.isList d.isList ?_ f;rw[yw,yw,<- r.length,<- m.length];simp[hl]
   | @tup _ _ _ xs ys e ha hb he =>
    obtain⟨its,r,pl,q⟩:=I.tuple ha;obtain⟨c,m,d,l⟩:=I.tuple hb;have p:xs.length=its.toArray.size:=by rw[yw];show r.length
    have t:ys.length=c.toArray.size:=by rw[yw];show m.length
    rw[p,t];show SeqAt.RcAt.tuples pl d f fun j h1 F=>?_;have w:its[j]?=some its.toArray[j]:=by simp
    have z:c[j]?=some c.toArray[j]:=by simp
    obtain⟨x,C,g⟩:=jg r w;obtain⟨y,D,i⟩:=jg m z;show ih.1 A.in1 x y (e j) _ _ (he j x y C D) g i o
   | lt ha hb =>
    obtain⟨its,r,pl,q⟩:=I.list ha;obtain⟨c,m,d,l⟩:=I.tuple hb;show SeqAt.RcAt.list_tuple pl.isList d f
   | tl ha hb =>
    obtain⟨its,r,pl,q⟩:=I.tuple ha;obtain⟨c,m,d,l⟩:=I.list hb;show SeqAt.RcAt.tuple_list pl d.isList f
  show⟨fun A x y k u v h g i B=>?_,E⟩
  cases h with
  | flat fx fy=>show qdF g i fx fy
  | self=>cases g;cases i;show XV _
  | deep h ne=>cases g;cases i;show SeqAt.EqAt.of_refs ne (E A _ _ k h B)
theorem ne_refs(I:Inv X pins σ H s){n:Nat}{A:Around}{a b:Addr}{k:Bool}(h:EqT X.K H n a b k)(B:A.units+n<cLine):SeqAt.RcNeAt A s (.ref a) (.ref b) (!k):=by
 cases n with
 | zero=>cases h
 | succ n =>
  have w:=qcv I n;have f:A.units<cLine:=by lk
  have l:A.in1.units+n<cLine:=by show A.units+1+n<cLine;lk
  cases h with
  | @lst _ _ _ xs ys e ha hb hl he =>
   obtain⟨its,r,pl,o⟩:=I.list ha;obtain⟨c,i,d,g⟩:=I.list hb;have m:xs.length=its.toArray.size:=by rw[yw];show r.length
   have p:ys.length=c.toArray.size:=by rw[yw];show i.length
   rw[m];show SeqAt.RcNeAt.lists pl.isList d.isList (by rw[<- m,<- p,hl]) f fun j h1 z=>?_;obtain⟨x,q,u⟩:=jg r (show its[j]?=some its.toArray[j] by simp);obtain⟨y,t,v⟩:=jg i (show c[j]?=some c.toArray[j] by simp);show w.1 A.in1 x y (e j) _ _ (he j x y q t) u v l
  | @lstL _ _ _ xs ys ha hb hl =>
   obtain⟨its,r,pl,o⟩:=I.list ha;obtain⟨c,i,d,g⟩:=I.list hb;show SeqAt.RcNeAt.lists_lengths pl.isList d.isList ?_ f;rw[yw,yw,<- r.length,<- i.length];simp[hl]
  | @tup _ _ _ xs ys e ha hb he =>
   obtain⟨its,r,pl,o⟩:=I.tuple ha;obtain⟨c,i,d,g⟩:=I.tuple hb;have m:xs.length=its.toArray.size:=by rw[yw];show r.length
   have p:ys.length=c.toArray.size:=by rw[yw];show i.length
   rw[m,p];show SeqAt.RcNeAt.tuples pl d f fun j h1 z=>?_;obtain⟨x,q,u⟩:=jg r (show its[j]?=some its.toArray[j] by simp);obtain⟨y,t,v⟩:=jg i (show c[j]?=some c.toArray[j] by simp);show w.1 A.in1 x y (e j) _ _ (he j x y q t) u v l
  | lt ha hb =>
   obtain⟨its,r,pl,o⟩:=I.list ha;obtain⟨c,i,d,g⟩:=I.tuple hb;show SeqAt.RcNeAt.list_tuple pl.isList d f
  | tl ha hb =>
   obtain⟨its,r,pl,o⟩:=I.tuple ha;obtain⟨c,i,d,g⟩:=I.list hb;show SeqAt.RcNeAt.tuple_list pl d.isList f
theorem qeB{A:Around}{x y:V}{u v:Value}(e:RelV x u)(c:RelV y v)(f:zQ x=true)(d:zQ y=true):SeqAt.RcAt A s u v (eqV x y)/\SeqAt.RcNeAt A s u v (!eqV x y):=by
 cases x with
 | non =>
  cases e
  cases y with
  | non=>cases c;show⟨SeqAt.RcAt.none_none,SeqAt.RcNeAt.none_none⟩
  | bl b=>cases c;show⟨SeqAt.RcAt.none_bool b,SeqAt.RcNeAt.none_bool b⟩
  | int b=>obtain⟨t,rfl⟩:=c;show⟨SeqAt.RcAt.none_int b t,SeqAt.RcNeAt.none_int b t⟩
  | str b=>obtain⟨t,rfl⟩:=c;show⟨SeqAt.RcAt.none_str b t,SeqAt.RcNeAt.none_str b t⟩
  | _=>cases d
 | bl a =>
  cases e
  cases y with
  | non=>cases c;show⟨SeqAt.RcAt.bool_none a,SeqAt.RcNeAt.bool_none a⟩
  | bl b=>cases c;show⟨SeqAt.RcAt.bool_bool a b,SeqAt.RcNeAt.bool_bool a b⟩
  | int b=>obtain⟨t,rfl⟩:=c;show⟨SeqAt.RcAt.bool_int a b t,SeqAt.RcNeAt.bool_int a b t⟩
  | str b=>obtain⟨t,rfl⟩:=c;show⟨SeqAt.RcAt.bool_str a b t,SeqAt.RcNeAt.bool_str a b t⟩
  | _=>cases d
 | int a =>
  obtain⟨t',rfl⟩:=e
  cases y with
  | non=>cases c;show⟨SeqAt.RcAt.int_none a t',SeqAt.RcNeAt.int_none a t'⟩
  | bl b=>cases c;show⟨SeqAt.RcAt.int_bool a t' b,SeqAt.RcNeAt.int_bool a t' b⟩
  | int b=>obtain⟨t,rfl⟩:=c;show⟨SeqAt.RcAt.int_int a t' b t,SeqAt.RcNeAt.int_int a t' b t⟩
  | str b=>obtain⟨t,rfl⟩:=c;show⟨SeqAt.RcAt.int_str a t' b t,SeqAt.RcNeAt.int_str a t' b t⟩
  | _=>cases d
 | str a =>
  obtain⟨t',rfl⟩:=e
  cases y with
  | non=>cases c;show⟨SeqAt.RcAt.str_none a t',SeqAt.RcNeAt.str_none a t'⟩
  | bl b=>cases c;show⟨SeqAt.RcAt.str_bool a t' b,SeqAt.RcNeAt.str_bool a t' b⟩
  | int b=>obtain⟨t,rfl⟩:=c;show⟨SeqAt.RcAt.str_int a t' b t,SeqAt.RcNeAt.str_int a t' b t⟩
  | str b=>obtain⟨t,rfl⟩:=c;show⟨SeqAt.RcAt.str_str a t' b t,SeqAt.RcNeAt.str_str a t' b t⟩
  | _=>cases d
 | _=>cases f
end
def qeC(K:yg)(c:Bool):R2:=fun x y H Q=>(zQ x=true/\zQ y=true/\Q (.bl (if c then !eqV x y else eqV x y)) H) \/
 (∃ a b k n,x=.ref a/\y=.ref b/\n<=60/\EqT K H n a b k/\Q (.bl (if c then !k else k)) H) \/
 (∃ a kvs,x=.ref a/\y=.ref a/\H a=some (.dK kvs)/\Q (.bl (!c)) H)
theorem qaY{b:Type}[DecidableEq b]:∀{a:List (b×Value)} {k:b} {v:Value},(a.map (·.1)).Nodup->(k,v)∈a->valueAt a k=some v
 | [],_,_,_,h=>by cases h
 | (k',v')::r,k,v,hn,h=>by
  obtain⟨h1,c⟩:=yo.mp (show(k'::r.map (·.1)).Nodup from hn);unfold valueAt;rw[xE];by_cases e:k'=k
  .subst e;simp only[decide_true];rcases yA.mp h with z | z
   .cases z;rfl
   .show absurd (yQ.mpr ⟨(k',v),z,rfl⟩) h1
  .simp only[e,kX];rcases yA.mp h with z | z
   .cases z;show absurd rfl e
   .show qaY c z
theorem qcw{A:Around}{s:Shared}{c:Type}[DecidableEq c](a:List (c×Value))(d:(a.map (·.1)).Nodup):∀ f:List (c×Value),(∀ p∈f,p∈a)->PySem.W.KeqHits A s a f true
 | [],_=>.nil
 | (k,v)::r,h=>by
  have hv:valueAt a k=some v:=qaY d (h (k,v) yy);show .hit (e:=true) (b:=true) hv (XV v) (qcw a d r fun p g=>h p (yu _ g))
section
variable{X:Cx}{K:yg}
theorem k_eqU(m:X.K=K)(t:X.A.units+100<cLine):OpR X (compareOp .Eq) (qeC K false):=by
 subst m;intro pins s σ H x y u v Q I c f h;rcases h with⟨j,l,q⟩ | ⟨a,b,k,n,rfl,rfl,p,e,q⟩ | ⟨a,kvs,rfl,rfl,i,q⟩
 .show(qeB c f j l).1 _ _ _ _ ⟨.bl _,H,I,rfl,q⟩
 .cases c;cases f;show(qcv I n).2 X.A a b k e (by lk) _ _ _ _ ⟨.bl _,H,I,rfl,q⟩
 .cases c;cases f;obtain⟨_,g,vs,r,d⟩:=(show ObjOk X.prog X.w H s.heap a (.dK kvs) from I.hok a _ i);obtain⟨_,_,_,_,_,_,_,_,o⟩:=id d;show PySem.W.keq_eq g g d d (by lk) (fun _=>qcw vs o vs fun _ h=>h) ?_;rw[xu];show⟨.bl true,H,I,rfl,q⟩
theorem zq(m:X.K=K)(t:X.A.units+100<cLine):OpR X (compareOp .NotEq) (qeC K true):=by
 subst m;intro pins s σ H x y u v Q I c f h;rcases h with⟨j,l,q⟩ | ⟨a,b,k,n,rfl,rfl,p,e,q⟩ | ⟨a,kvs,rfl,rfl,i,q⟩
 .show(qeB c f j l).2 _ _ _ _ ⟨.bl _,H,I,rfl,q⟩
 .cases c;cases f;show ne_refs I e (by lk) _ _ _ _ ⟨.bl _,H,I,rfl,q⟩
 .cases c;cases f;obtain⟨_,g,vs,r,d⟩:=(show ObjOk X.prog X.w H s.heap a (.dK kvs) from I.hok a _ i);obtain⟨_,_,_,_,_,_,_,_,o⟩:=id d;show PySem.W.keq_ne g g d d (by lk) (fun _=>qcw vs o vs fun _ h=>h) ?_;rw[xu];show⟨.bl false,H,I,rfl,q⟩
end
section
variable{X:Cx}{K:yg}
def qf3(K:yg):R2:=fun x y H Q=>rIx K x y H Q\/∃ a v,x=.ref a/\DGet H a y (some v)/\Q v H
theorem qr(f:X.K=K)(m:X.A.units+100<cLine):IxR X (qf3 K):=by
 subst f;show IxR.or ix_seq ?_;intro d c pins s σ H x y v u Q I j l h i;obtain⟨a,z,rfl,g,q⟩:=h;cases j;show tail_any (dict_typeIs I g) PySem.F.slot_dict_getitem.lookup (d_getItem (by lk) I g l fun o n e b=>⟨z,H,e,b,q⟩) i
def rSetU:qff:=fun o i v H Q=>rSetL o i v H Q\/∃ a H',o=.ref a/\DPut H a i v H'/\Q H'
theorem jq(l:X.A.units+100<cLine):qfC X rSetU:=by
 intro pins s σ H o i v j f u Q I c b d h;rcases h with h | ⟨a,H',rfl,g,q⟩
 .show set_list pins s σ H o i v j f u Q I c b d h
 .cases c;show d_setItem (by lk) I g b d fun s' e=>⟨H',e,q⟩
def qft(K:yg)(b:Bool):R2:=fun x y H Q=>rIn K b x y H Q\/(∃ a o,y=.ref a/\DGet H a x o/\Q (.bl (if b then !o.isSome else o.isSome)) H) \/
 (∃ p xs e n,y=.ref p/\SqL K H p xs/\n<=60/\(∀ z∈xs,EqD K H n z x (e z))/\Q (.bl (if b then !xs.any e else xs.any e)) H)
theorem qdN{pins:List (Addr×Obj)}{σ:St}{H:Hp}{s:Shared}{xs:List V}{its:List Value}{x:V}{u:Value}{e:V->Bool}{n:Nat}{A:Around}(I:Inv X pins σ H s)(r:Vals xs its)(v:RelV x u)(t:A.units+n<cLine)(p:∀ z∈xs,EqD X.K H n z x (e z)) :
  ∃ i:Value->Bool,(∀ w,w∈its.toArray->SeqAt.EqAt A s w u (i w))/\its.toArray.any i=xs.any e:=by
 classical
 show⟨fun w=>decide (∃ z∈xs,RelV z w/\e z=true),fun w hw=>?_,?_⟩
 .have f:w∈its:=by simpa using hw
  obtain⟨j,d⟩:=List.mem_iff_getElem?.mp f;obtain⟨z,a,b⟩:=jg r d;have l:=ye a
  have o:decide (∃ z∈xs,RelV z w/\e z=true)=e z:=by
   cases q:e z with
   | true=>show yD ⟨z,l,b,q⟩
   | false =>
    show yl fun⟨y,_,g,m⟩=>?_;rw[RelV.inj g b,q] at m;cases m
  show SeqAt.EqAt A s w u (decide (∃ z∈xs,RelV z w/\e z=true));rw[o];show(qcv I n).1 A z x (e z) w u (p z l) b v t
 .rw [xD,xK];constructor
  .intro h;have h':its.any (fun w=>decide (∃ z∈xs,RelV z w/\e z=true))=true:=by simpa using h
   obtain⟨w,_,q⟩:=xK.mp h';obtain⟨z,a,_,c⟩:=yk q;show⟨z,a,c⟩
  .rintro ⟨z,a,c⟩;obtain⟨j,d⟩:=List.mem_iff_getElem?.mp a;obtain⟨w,hw,b⟩:=r.get d;have:its.any (fun w=>decide (∃ z∈xs,RelV z w/\e z=true))=true:=xK.mpr ⟨w,ye hw,yD ⟨z,a,b,c⟩⟩;simpa using this
theorem qcx(j:X.K=K)(l:X.A.units+100<cLine):OpR X (compareOp .In) (qft K false):=by
 subst j;intro pins s σ H x y u v Q I b c h;rcases h with h | ⟨a,o,rfl,g,q⟩ | ⟨p,xs,e,n,rfl,hl,hn,he,q⟩
 .show op_in_seq pins s σ H x y u v Q I b c h
 .cases c;show d_in (by lk) I g b fun s' d=>⟨.bl _,H,d,rfl,q⟩
 .cases c;obtain⟨its,r,pl,m⟩:=I.list hl;obtain⟨f,h1,i⟩:=qdN (A:=X.A.in1) I r b (by show X.A.units+1+n<cLine;lk) he;show SeqAt.in_listAt f pl.isList h1 (by rw[i];show⟨.bl _,H,I,rfl,q⟩)
theorem jH(j:X.K=K)(l:X.A.units+100<cLine):OpR X (compareOp .NotIn) (qft K true):=by
 subst j;intro pins s σ H x y u v Q I b c h;rcases h with h | ⟨a,o,rfl,g,q⟩ | ⟨p,xs,e,n,rfl,hl,hn,he,q⟩
 .show op_notIn_seq pins s σ H x y u v Q I b c h
 .cases c;show d_notIn (by lk) I g b fun s' d=>⟨.bl _,H,d,rfl,q⟩
 .cases c;obtain⟨its,r,pl,m⟩:=I.list hl;obtain⟨f,h1,i⟩:=qdN (A:=X.A.in1) I r b (by show X.A.units+1+n<cLine;lk) he;show SeqAt.notIn_listAt f pl.isList h1 (by rw[i];show⟨.bl _,H,I,rfl,q⟩)
def rListU(K:yg):List V->Hp->VK->Prop:=fun xs H Q=>(∃ p ys,xs=[.ref p]/\(SqL K H p ys\/SqT K H p ys)/\∀ l,H l=none->Q (.ref l) (upd H l (.lst ys))) \/
 (∃ p kvs,xs=[.ref p]/\H p=some (.dK kvs)/\∀ l,H l=none->Q (.ref l) (upd H l (.lst (kvs.map fun a=>kV a.1)))) \/
 (∃ x,xs=[.str x]/\x.length<=1000/\∀ l,H l=none->Q (.ref l) (upd H l (.lst (x.cps.toList.map fun c=>.str ⟨#[c]⟩))))
theorem qbg{c d:Type}{F:c->d->Prop}:∀{l:List c} {m:List d} {j:Nat} {a:c},Paired F l m->l[j]?=some a->∃ b,m[j]?=some b/\F a b
 | _,_,_,_,.nil,e=>by simp at e
 | _,_,0,_,.cons r _,e=>by simp at e;subst e;show⟨_,rfl,r⟩
 | _,_,j+1,a,.cons _ t,e=>by
  obtain⟨b,h1,f⟩:=qbg (j:=j) (a:=a) t (by simpa using e);show⟨b,by simpa using h1,f⟩
theorem qaA:∀{ys:List V} {us:List Value},ys.length=us.length->(∀(j:Nat) y u,ys[j]?=some y->us[j]?=some u->RelV y u)->Vals ys us
 | [],[],_,_=>.nil
 | [],_::_,h,_=>by cases h
 | _::_,[],h,_=>by cases h
 | y::ys,u::us,h,q=>.cons (q 0 y u rfl rfl) (qaA (Nat.succ.inj h) fun j c b h1 a=>q (j+1) c b (by simpa using h1) (by simpa using a))
theorem zW(L:X.K=K)(hc:X.calm=true):jX X (.type "list") (rListU K):=by
 subst L;intro pins s σ H xs us Q I r h;rcases h with h | ⟨p,kvs,rfl,ea,q⟩ | ⟨x,rfl,hx,q⟩
 .show call_list_of pins s σ H xs us Q I r h
 .obtain⟨u,rfl,N⟩:=qaa r;cases N;obtain⟨D,M,vs,E,d⟩:=(show ObjOk X.prog X.w H s.heap p (.dK kvs) from I.hok p _ ea);obtain⟨ep,n⟩:=d.dictAt;have hl:kvs.length=vs.length:=E.length;show PySem.W.kdl_call (PySem.W.kdl_dict (knd:=q8 X.prog X.w) (kvs:=vs) (ep:=ep) M) (I.ok.hd hc) n (by rw[<- hl];show D) fun h' tk a f A e it=>?_;obtain⟨o,v⟩:=it
  have hv:Vals (kvs.map fun b=>kV b.1) a.toList:=by
   show qaA (by rw[ya,hl,<- o];simp) fun j y u h1 g=>?_;obtain⟨k,x,l,G⟩:=v j u (by simpa using g);rw[yd] at h1
   cases B:kvs[j]? with
   | none=>rw[B] at h1;cases h1
   | some b =>
    rw[B] at h1;cases h1;obtain⟨P,C,J,O⟩:=qbg E B;rw[l] at C;cases C;have F:b.1=k:=J;show RelV (kV b.1) u;rw[F];rcases qH (show qcm k u=true from G) with⟨i,t,rfl,rfl⟩ | ⟨z,t,rfl,rfl⟩
    .show⟨t,rfl⟩
    .show⟨t,rfl⟩
  show⟨.ref s.heap.objs.size,_,I.laid (t':=tk) A (yh _) (show ObjOk X.prog X.w _ h' _ (.lst (kvs.map fun b=>kV b.1)) from⟨by rw[ya];show D,a.toList,f,hv,by simpa using e⟩),rfl,q _ (I.hok.fresh (yh _))⟩
 .obtain⟨u,rfl,t,rfl⟩:=qaa r;have hsz:x.cps.size<=sizeLine:=yP (qi hx);show call_list_str (I.ok.hd hc) x t (fun h' tk a f A e it=>?_) hsz;obtain⟨o,v⟩:=it
  have hv:Vals (x.cps.toList.map fun c=>V.str ⟨#[c]⟩) a.toList:=by
   show qaA (by rw[ya];simp[o]) fun j y u h1 g=>?_;obtain⟨c,t',l,rfl⟩:=v j u (by simpa using g);rw[yd] at h1;have m:x.cps.toList[j]?=some c:=by simpa using l
   rw[m] at h1;cases h1;show⟨t',rfl⟩
  show⟨.ref s.heap.objs.size,_,I.laid (t':=tk) A (yh _) (show ObjOk X.prog X.w _ h' _ (.lst (x.cps.toList.map fun c=>V.str ⟨#[c]⟩)) from⟨by rw[ya];simpa using hsz,a.toList,f,hv,by simpa using e⟩),rfl,q _ (I.hok.fresh (yh _))⟩
end
structure CMethOk(P:Program)(w:World)(K:yg)(mg:Str->Option Value)(base:Heap)(CX:CXT)(k:Nat)(C:Addr)(x m:Str)(ps:LS)(sp:Sp):Prop where
 ex:∃ f fd,FnOk P w K mg base CX k f fd ps sp/\CMeth K C m f/\Binds K fd ps []
 mg_:mg x=some (.ref C)
section
variable{X:Cx}{k:Nat}{C:Addr}{ps:LS}{sp:Sp}{x m:Str}{p pos apos:Pos}{e:Expr}{es:List Expr}{t:TA}
theorem qc0(D:MakeOk X.prog X.w X.K X.mg X.base CX0 k C x ps sp)(h:Room (k+1) X.A)(c:PA X (e::es) t)(g:Gl X x:=by rfl)(a:(x==("__debug__":Str))=false:=by decide)
  (d:starEach (e::es) X.env=(false,eval e X.env)::starEach es X.env:=by rfl) (b:(backTo pos (starEach es X.env)).any (·.1)=false:=by rfl):PE X (.Call (.Name x p) (e::es) [] pos) (qeX C sp [] E0 t):=by
 obtain⟨f,fd,F,M,hb⟩:=D.ex;show pe_make M F h g D.mg_ hb .nil qy c a d b
theorem pe_clsmQ{pl:Sem Bool}(D:CMethOk X.prog X.w X.K X.mg X.base CX0 k C x m ps sp)(h:Room k X.A)(d:PA X (e::es) t)(g:Gl X x:=by rfl)(a:(x==("__debug__":Str))=false:=by decide)
  (c:starEach (e::es) X.env=(false,eval e X.env)::starEach es X.env:=by rfl) (b:(backTo pos (starEach es X.env)).any (·.1)=false:=by rfl)
  (i:eval (.Call (.Attribute (.Name x p) m apos) (e::es) [] pos) X.env=(do
   let ov <- eval (.Name x p) X.env
   standAt apos.atName
   let (f,first) <- holding [ov] (getMethod ov m pl)
   callWith pos f first (backTo pos (starEach (e::es) X.env)) (backToKw pos (keywordEach [] X.env))):=by rfl) :
  PE X (.Call (.Attribute (.Name x p) m apos) (e::es) [] pos) (qco sp [] E0 t):=by
 obtain⟨f,fd,F,M,hb⟩:=D.ex;show pe_clsm (pl:=pl) M F h g D.mg_ hb qy d a c b i
end
theorem own_eq_same{prog:Program}{w:World}{A:Around}{E:Value->Shared->Prop}{s:Shared}{K:yg}{x C:Addr}{ox:Obj}{od:Option Obj}{Q:Value->Shared->Prop}(l:A.units<cLine)(X:K.In s.heap)(I:PySem.W.InstAt s.heap x ox C od)
  (j:PySem.W.findIn K (.ref C) "__eq__"=some (some (.builtin "object.__eq__"))) (g:PySem.W.mroIn K C (.type "object")=some true) (h:Q (.bool true) s):wpAny (model prog w) A (richCompare .Eq (.ref x) (.ref x)) Q E s:=by
 have a:∀{f:Around} {d:Value->Shared->Prop},d (.bool true) s->wpAny (model prog w) f (call (.builtin "object.__eq__") [.ref x,.ref x]) d E s:=fun{f d} q=>by
  show xj (Y7 PySem.F.slot_object_eq.plain PySem.F.entry_object_eq (@PySem.W.check_slot (model prog w) _ _ s "object.__eq__" "object" "__eq__" (.ref x) [.ref x] [] _ (by room) (by room) (I.type.andThen (xl X g)) (PySem.F.args_object_eq_2 _ _) ?_));show yr (yv (yr (wpAny_isSame_ref_self ?_)));show yv q
 have one:wpAny (model prog w) A (tryCompare (.ref x) "__eq__" (.ref x)) (fun r s'=>∃ v,r=some v/\Q v s') E s:=by
  unfold tryCompare;show yr ?_;simp only[callSpecialIfBound?,bindSpecialIfBound?];show Yl (yr (yr (yr (I.type.here ((YJ X j).here ?_)))));show yr (kD (wpAny_ite ?_));have b:=PySem.F.slot_object_eq.bind (.ref x)
  have c:wpAny (model prog w) A (call (.builtin "object.__eq__") ([.ref x]++[.ref x])>>=fun v=>pure (some v)) (fun r s'=>wpAny (model prog w) A (match r with | some .notImplemented | none=>pure none | some v=>pure (some v)) (fun r s'=>∃ v,r=some v/\Q v s') E s') E s:=
   yr (a (yv (yv ⟨_,rfl,h⟩)))
  split
  .show yr (YY b (yv c))
  .show wpAny_tryCatch (yr (YY b (yv c)))
 unfold richCompare;simp only[oneThing_ref];show Yl (yr (wpAny_cRoomFor l ?_));show yr (I.type.here (yr (I.type.here ?_)));rw[yB (by simp)];show yr (yv ?_);simp only[Xn,ke];show yr (Ym one (fun r s' z=>?_) fun _ _ e=>e);obtain⟨v,rfl,i⟩:=z;show yv i
structure OEq(K:yg)(C:Addr):Prop where
 eq:PySem.W.findIn K (.ref C) "__eq__"=some (some (.builtin "object.__eq__"))
 ob:PySem.W.mroIn K C (.type "object")=some true
def qf4(K:yg):R2:=fun x y H Q=>qeC K false x y H Q\/∃ a C dx fs,x=.ref a/\y=.ref a/\H a=some (.ins C dx fs)/\OEq K C/\Q (.bl true) H
theorem k_eqW{X:Cx}{K:yg}(d:X.K=K)(e:X.A.units+100<cLine):OpR X (compareOp .Eq) (qf4 K):=by
 subst d;intro pins s σ H x y u v Q I b c h;rcases h with h | ⟨a,C,dx,fs,rfl,rfl,ea,oe,q⟩
 .show k_eqU rfl e pins s σ H x y u v Q I b c h
 .cases b;cases c;obtain⟨f,O,_⟩:=qax I.hok ea;obtain⟨od,J,_⟩:=O.look;show own_eq_same (by lk) I.kIn J oe.eq oe.ob ⟨.bl true,H,I,rfl,q⟩
theorem qL{X:Cx}:MtR X "list.append" rAppend:=mt_append
theorem mtR_pop{X:Cx}:MtR X "list.pop" rPop:=mt_pop
theorem qb6{X:Cx}:MtR X "list.pop" rPopAt:=mt_popAt
theorem boot_ValueError:bootBuiltins "ValueError"=some (.type "ValueError"):=by room
section
variable{D:Ends}{σ:St}{H:Hp}{Q:VK}{t u:TS}{te ta tb tc:TE}{tas:TA}{K:yg}{sp:Sp}{E:XK}{EK:St->XK}{C:Addr}{f m:Str}
theorem vFldU(h:ta σ H fun x a=>FlUR K f x a Q):qfq K ta f σ H Q:=h
theorem vSFldU(h:te σ H fun y a=>ta σ a fun x b=>SFUR K f x y b (D.nx σ)):qfr K ta te f D σ H:=h
theorem vXMake(h:tas σ H fun vs a=>vs.length<=1000/\∀ x,a x=none->sp (.ref x::vs) (upd a x (XN x C none)) (fun v b=>v=.non/\Q (.ref x) b) E):qdL C sp E tas σ H Q:=h
theorem vMake(h:tas σ H fun vs a=>∀ x dx,a x=none->a dx=none->dx≠x->sp (.ref x::(vs++[])) (upd (upd a dx (.own x)) x (.ins C dx [])) (fun v b=>v=.non/\Q (.ref x) b) E):qeX C sp [] E tas σ H Q:=h
theorem vMeth(h:ta σ H fun x a=>MeR C m x a (tas σ a fun vs b=>sp (x::(vs++[])) b Q E)):qdB C m sp [] E ta tas σ H Q:=h
theorem vVinit(h:tas σ H fun vs b=>∃ a C y,vs=[.ref a,y]/\b a=some (XN a C none)/\XAt K C/\Q .non b):qev K tas σ H Q:=h
theorem vCallS(h:tas σ H fun vs a=>sp vs a Q (EK σ)):qez sp EK tas σ H Q:=h
theorem vMethS(h:ta σ H fun x a=>MeR C m x a (tas σ a fun vs b=>sp (x::vs) b Q (EK σ))):tMethS C m sp EK ta tas σ H Q:=h
theorem vMakeS(h:tas σ H fun vs a=>∀ x dx,a x=none->a dx=none->dx≠x->sp (.ref x::vs) (upd (upd a dx (.own x)) x (.ins C dx [])) (fun v b=>v=.non/\Q (.ref x) b) (EK σ)):tMakeS C sp EK tas σ H Q:=h
theorem vRaise(h:te σ H fun x b=>∃ a C dx,x=.ref a/\b a=some (XN a C dx)/\XAt K C/\EK σ (.ref C) dx (upd b a (XO a C dx))):qey K EK te D σ H:=h
theorem qaB{x y:V}{t a:Value}{b:Bool}(ty:TyX K H x t)(c:qb0 y=some a)(hb:PySem.W.kitOne K t a=some b)(h:Q (.bl b) H):qfs K [x,y] H Q:=⟨x,y,t,a,b,rfl,ty,c,hb,h⟩
end
section
variable{prog:Program}{w:World}{A:Around}{E:Value->Shared->Prop}{s:Shared}
theorem none_dict{a:Addr}{Q:Value->Shared->Prop}(d:s.TypeIs (.ref a) "dict")(e:A.units<cLine)(h:Q (.bool false) s):wpAny (model prog w) A (richCompare .Eq .none (.ref a)) Q E s:=by
 show SeqAt.rc_eq_decline_or (k:=false) rfl d (by decide) PySem.F.sub_dict_NoneType YQ PySem.F.slot_dict_eq_refl
  (fun _ c=>call_gives YQ rfl PySem.F.entry_NoneType_eq (PySem.F.args_NoneType_eq_2 _ _) (SeqAt.NoneType___eq___none_ref_0 a) c) (fun f c=>?_) (fun _ c=>YY (rfl:isSame .none (.ref a)=pure false) c) (.inr e) h
 show kB PySem.F.slot_dict_eq_refl d PySem.F.entry_dict_eq ?_ (PySem.F.args_dict_eq_2 _ _);show wpAny _ _ (Builtin.Dict.dictSlotArgs "__eq__" ⟨[.ref a,.none],[]⟩>>=_) _ _ s;show yr ?_;unfold Builtin.Dict.dictSlotArgs;show yr (wpAny_notOrdered_dict d ?_);show wpAny _ _ (pure (Value.ref a,Value.none)) _ _ s;show yv ?_;show yr (wpAny_isInstance (T:="NoneType") (b:=false) rfl PySem.F.sub_NoneType_dict ?_);simp only[Bool.not_false,Xi];show yr (kM (yv ⟨_,rfl,c⟩))
theorem none_own{K:yg}{x C:Addr}{ox:Obj}{od:Option Obj}{Q:Value->Shared->Prop}(i:A.units<cLine)(X:K.In s.heap)(I:PySem.W.InstAt s.heap x ox C od)(f:OEq K C)(g:PySem.W.mroIn K C (.type "NoneType")=some false)
  (h:Q (.bool false) s):wpAny (model prog w) A (richCompare .Eq .none (.ref x)) Q E s:=by
 have j:wpAny (model prog w) A (tryCompare .none "__eq__" (.ref x)) (fun r s'=>r=none/\s'=s) E s:=by
  unfold tryCompare;show yr ?_;simp only[callSpecialIfBound?,bindSpecialIfBound?];show Yl (yr (yr ?_));show yr (YY (rfl:typeOf .none=pure (.type "NoneType")) ?_);show YY YQ.lookup ?_;show yr (kD (wpAny_ite ?_))
  have a:wpAny (model prog w) A (call (.builtin "NoneType.__eq__") ([.none]++[.ref x])>>=fun v=>pure (some v)) (fun r s'=>wpAny (model prog w) A (match r with | some .notImplemented | none=>pure none | some v=>pure (some v)) (fun r s'=>r=none/\s'=s) E s') E s:=
   yr (call_gives YQ rfl PySem.F.entry_NoneType_eq (PySem.F.args_NoneType_eq_2 _ _) (SeqAt.NoneType___eq___none_ref_0 x) (yv (yv ⟨rfl,rfl⟩)))
  split
  .show yr (YY (YQ.bind .none) (yv a))
  .show wpAny_tryCatch (yr (YY (YQ.bind .none) (yv a)))
 have l:wpAny (model prog w) A (tryCompare (.ref x) "__eq__" .none) (fun r s'=>r=none/\s'=s) E s:=by
  unfold tryCompare;show yr ?_;simp only[callSpecialIfBound?,bindSpecialIfBound?];show Yl (yr (yr (yr (I.type.here ((YJ X f.eq).here ?_)))));show yr (kD (wpAny_ite ?_));have b:=PySem.F.slot_object_eq.bind (.ref x)
  have c:∀{d:Value->Shared->Prop},d .notImplemented s->wpAny (model prog w) A (call (.builtin "object.__eq__") [.ref x,.none]) d E s:=fun{d} q=>by
   show xj (Y7 PySem.F.slot_object_eq.plain PySem.F.entry_object_eq (@PySem.W.check_slot (model prog w) _ _ s "object.__eq__" "object" "__eq__" (.ref x) [.none] [] _ (by room) (by room) (I.type.andThen (xl X f.ob)) (PySem.F.args_object_eq_2 _ _) ?_));show yr (yv (yr (YY (rfl:isSame (.ref x) .none=pure false) ?_)));show yv q
  have a:wpAny (model prog w) A (call (.builtin "object.__eq__") ([.ref x]++[.none])>>=fun v=>pure (some v)) (fun r s'=>wpAny (model prog w) A (match r with | some .notImplemented | none=>pure none | some v=>pure (some v)) (fun r s'=>r=none/\s'=s) E s') E s:=
   yr (c (yv (yv ⟨rfl,rfl⟩)))
  split
  .show yr (YY b (yv a))
  .show wpAny_tryCatch (yr (YY b (yv a)))
 unfold richCompare;show Yl (yr (wpAny_cRoomFor i ?_));show wpAny _ _ (typeOf .none>>=_) _ _ _;show yr (YY (rfl:typeOf .none=pure (.type "NoneType")) (yr (I.type.here ?_)));rw[yG (by rfl)];show yr ((xl X g).here ?_);simp only[Xn,ke];show yr (Ym j (fun r s' z=>?_) fun _ _ e=>e);obtain⟨rfl,rfl⟩:=z;simp only[Bool.not_false,Xi];show yr (Ym l (fun r s' z=>?_) fun _ _ e=>e);obtain⟨rfl,rfl⟩:=z;show yr (kM (yr (YY (rfl:isSame .none (.ref x)=pure false) (yv h))))
end
def rNoneRef(K:yg):R2:=fun x y H Q=>∃ a,x=.non/\y=.ref a/\((∃ xs,SqL K H a xs\/SqT K H a xs)\/(∃ kvs,H a=some (.dK kvs))\/∃ C dx fs,H a=some (.ins C dx fs)/\OEq K C/\PySem.W.mroIn K C (.type "NoneType")=some false)/\Q (.bl false) H
def qe7(K:yg):R2:=fun x y H Q=>qf4 K x y H Q\/rNoneRef K x y H Q
theorem zy{X:Cx}{K:yg}(e:X.K=K)(j:X.A.units+100<cLine):OpR X (compareOp .Eq) (qe7 K):=by
 intro pins s σ H x y u v Q I f g h;rcases h with h | ⟨a,rfl,rfl,h,q⟩
 .show k_eqW e j pins s σ H x y u v Q I f g h
 .subst e;cases f;cases g;have b:EP X pins σ Q (.bool false) s:=⟨.bl false,H,I,rfl,q⟩;rcases h with⟨xs,hl | hl⟩ | ⟨kvs,c⟩ | ⟨C,dx,fs,c,l,i⟩
  .obtain⟨its,r,pl,_⟩:=I.list hl;show SeqAt.RcAt.none_list pl.isList (by lk) _ _ _ _ b
  .obtain⟨its,r,pl,_⟩:=I.tuple hl;show SeqAt.RcAt.none_tuple pl (by lk) _ _ _ _ b
  .obtain⟨_,_,vs,_,d⟩:=(show ObjOk X.prog X.w H s.heap a (.dK kvs) from I.hok a _ c);show none_dict d.typeIs (by lk) b
  .obtain⟨m,O,_⟩:=qax I.hok c;obtain⟨od,J,_⟩:=O.look;show none_own (by lk) I.kIn J l i b
def XL(K:yg)(C:Addr)(d:List Value):Prop:=∃ l m N bs a sn c ab b e f g h i j,K.lookup C=some (excClassObj l m C N bs d a sn c ab b e f g h i j "ValueError.__new__")
section
variable{K:yg}{C D:Addr}{bm bn:List Value}
theorem XL.xat(x:XL K C bm)(hb:qbI bm=true)
  (f:PySem.W.findIn K (.ref C) "__getattribute__"=some (some (.builtin "BaseException.__getattribute__"))) (g:PySem.W.findIn K (.ref C) "__getattr__"=some none)
  (b:PySem.W.mroIn K C (.type "BaseException")=some true) (i:PySem.W.mroIn K C (.type "object")=some true) (h:PySem.W.hasDictIn K C=true) (cl:PySem.W.findIn K (.ref C) "__class__"=some (some (.builtin "object.__class__")))
  (c:PySem.W.specialIn K (.builtin "object.__class__") "__get__"=some (some (.builtin "getset_descriptor.__get__"))) (ct:PySem.W.takesIn K (.builtin "object.__class__")=some true)
  (j:PySem.W.findIn K (.ref C) "__setattr__"=some (some (.builtin "object.__setattr__"))):XAt K C:=by
 obtain⟨s,t,N,bs,a,sn,l,ab,d,m,n,o,p,q,r,e⟩:=x;show⟨f,g,b,i,h,cl,c,ct,j,?_,?_⟩
 .unfold PySem.W.clsIn;rw[e];show hb
 .unfold qfB;rw[e];simp[hb]
theorem XL.kit(x:XL K C bm)(y:XL K D bn):PySem.W.kitOne K (.ref C) (.ref D)=some ((Value.ref C::bm).contains (.ref D)):=by
 obtain⟨I,J,N,bs,d,sn,v,ab,i,A,B,E,F,G,H,e⟩:=x;obtain⟨q,t,w,h,a,u,f,g,b,j,l,m,n,o,p,c⟩:=y;unfold PySem.W.kitOne PySem.W.kitCls;split
 .rename_i z
  have z:C=D:=XI (yY.mp z);subst z;simp
 .dsimp only;have r:(PySem.W.clsIn K D).isSome=true:=by unfold PySem.W.clsIn;rw[c];rfl
  have s:(PySem.W.typeIn K (.ref D)==some (.type "type"))=true:=by show((K.lookup D).map (·.cls)==_)=true;rw[c];rfl
  rw[yG (by rw[r,s];rfl)];unfold PySem.W.subIn PySem.W.mroIn PySem.W.clsIn;dsimp only;rw[e];rfl
theorem XL.kitT(x:XL K C bm){T:String}(h:PySem.W.kitMeta T=true):PySem.W.kitOne K (.ref C) (.type T)=some (bm.contains (.type T)):=by
 obtain⟨m,n,N,bs,a,sn,c,ab,b,d,f,g,i,j,l,e⟩:=x;unfold PySem.W.kitOne PySem.W.kitCls;split
 .rename_i z
  show absurd (yY.mp z) nofun
 .dsimp only;rw[yG h];unfold PySem.W.subIn PySem.W.mroIn PySem.W.clsIn;dsimp only;rw[e];show some ((Value.ref C::bm).contains _)=_;rw[Yo];rfl
noncomputable abbrev qb7:List Value:=[.type "ValueError",.type "Exception",.type "BaseException",.type "object"]
theorem qdO:qbI qb7=true:=by decide
theorem qdP{c:Addr}:qbI (.ref c::qb7)=true:=qdO
theorem kits{K:yg}{a:LI}{c:Addr}(n:(a++[c]).Nodup)(h:∀ i,i<a.length->XL K (a.getD i c) (.ref c::qb7))(hc:XL K c qb7) :
  (∀ i j,i<a.length->j<a.length->PySem.W.kitOne K (.ref (a.getD i c)) (.ref (a.getD j c))=some (decide (i=j)))/\(∀ i,i<a.length+1->PySem.W.kitOne K (.ref (a.getD i c)) (.ref c)=some true) /\
  (∀ i,i<a.length+1->PySem.W.kitOne K (.ref (a.getD i c)) (.type "ValueError")=some true)/\∀ j,j<a.length->PySem.W.kitOne K (.ref c) (.ref (a.getD j c))=some false:=by
 have m:∀(j:Nat) (b:j<a.length),a.getD j c=a[j]:=fun j b=>by simp[List.getD,b]
 have hl:a.getD a.length c=c:=by simp
 have g:∀ j,j<a.length->c≠a.getD j c:=fun j b e=>by
  have s:=(yZ.mp n).2.2 (a.getD j c) (by rw[m j b];show XF b) c (by simp);show s e.symm
 show⟨fun i j f b=>?_,fun i f=>?_,fun i f=>?_,fun j b=>?_⟩
 .rw [(h i f).kit (h j b)]
  congr 1
  rw[Yo,Yo];have l:((Value.ref (a.getD j c))==Value.ref c)=false:=Yr.mpr fun e=>g j b (XI e).symm;have p:List.contains qb7 (Value.ref (a.getD j c))=false:=rfl;rw[l,p];by_cases d:i=j
  .subst d;simp
  .have r:((Value.ref (a.getD j c))==Value.ref (a.getD i c))=false:=Yr.mpr fun e=>by
    have e:=XI e;rw[m i f,m j b] at e;have o:=YZ.mp (yZ.mp n).1;rcases Nat.lt_or_gt_of_ne d with q | q
    .show o i j f b q e.symm
    .show o j i b f q e
   rw[r];simp[d]
 .rcases Nat.lt_or_ge i a.length with hi' | hi'
  .rw [(h i hi').kit hc,Yo,Yo];simp
  .have:i=a.length:=by lk
   subst this;rw[hl,hc.kit hc];simp
 .rcases Nat.lt_or_ge i a.length with hi' | hi'
  .rw [(h i hi').kitT (by room)];rfl
  .have:i=a.length:=by lk
   subst this;rw[hl,hc.kitT (by room)];rfl
 .rw [hc.kit (h j b),Yo];have l:((Value.ref (a.getD j c))==Value.ref c)=false:=Yr.mpr fun e=>g j b (XI e).symm;rw[l];rfl
end
end L2
namespace HT
open PySem PySem.Spec PyProof.Rows
variable{sl:Addr}{vs:Value}
section
variable{prog:Program}{w:World}{A:Around}{E:Value->Shared->Prop}{s:Shared}
theorem sliceApplied_rev{Q:Int×Int×Nat->Shared->Prop}(d:s.heap.IsSliceOf sl .none .none vs)(ps:IsPart vs (some (-1)))
  (h:Q (1,-1,2) s):wpAny (model prog w) A (Builtin.Slice.sliceApplied (.ref sl) (pure ((2:Nat):Int))) Q E s:=by
 obtain⟨e,b,c,a⟩:=id d;unfold Builtin.Slice.sliceApplied Builtin.Slice.sliceFields;show yr (yr (xG b a (x:=.none) rfl (yr (xG b a (x:=.none) rfl (yr (xG b a (x:=vs) rfl (yv ?_)))))));show yr (qay ps ?_);show wpAny _ _ (if ((-1:Int)==0)=true then _ else _) _ _ s;rw[yB (by decide)];show yr (kf (yr (kf (yr (yv ?_)))));show yv h
theorem getItem_pair_rev{t:Addr}{x y:Value}{Q:Value->Shared->Prop}(b:IsTup s.heap t #[x,y])(f:s.heap.IsSliceOf sl .none .none vs)(ps:IsPart vs (some (-1)))
  (h:Q (.ref s.heap.objs.size) { s with heap:=s.heap.push { cls:=.type "tuple",data:=.seq #[y,x] } }):wpAny (model prog w) A (getItem (.ref t) (.ref sl)) Q E s:=by
 have a:sizeOk (.seq #[y,x]):=by
  show 2<=sizeLine
  decide
 obtain⟨i,e,d,g⟩:=id f;have c:s.TypeIs (.ref sl) "slice":=⟨i,e,d⟩;unfold getItem
 try with_reducible show Yl ?_
 first | show yr (yv ?_) | skip
 show yr (wpAny_sequenceKey b.typeIs (by decide) ?_);show yr (wpAny_callSpecial?_slot (name:=Str.ofString "__getitem__") b.typeIs YA
  (kB YA b.typeIs entry_tuple_getitem ?_ (args_tuple_getitem _ _)))
 show wpAny _ _ (Builtin.Tuple.tupleItemsOf (.ref t)>>=_) _ _ s;show yr (tupleItemsOf_ b ?_);show yr (wpAny_typeOf c ?_);rw[yG (by decide)];show yr (sliceApplied_rev f ps ?_);show wpAny _ _ (if ((1:Int)==0&&(-1:Int)==1&&2==2)=true then _ else _) _ _ s;rw[yB (by decide)]
 first
  | show yr (m:=Builtin.Tuple.tupleExact _) (YI (yv ⟨_,rfl,yv h⟩) a)
  | show yr (m:=Builtin.Tuple.tupleExact _) (YI (yr (yv (yv ⟨_,rfl,yv h⟩))) a)
  | show yr (yr (m:=Builtin.Tuple.tupleExact _) (YI (yv (yv ⟨_,rfl,yv h⟩)) a))
  | show yr (yr (m:=Builtin.Tuple.tupleExact _) (YI (yv ⟨_,rfl,yv h⟩) a))
end
end HT
namespace L2
open PySem PySem.Spec PyProof.Rows
variable{H:Hp}{σ:St}
def qf5(K:yg)(d:TE)(e:TO):TE:=fun σ H Q=>d σ H fun x c=>e σ c fun o b=>o=some (-1)/\∃ a y z,x=.ref a/\SqT K b a [y,z]/\∀ p,b p=none->Q (.ref p) (upd b p (.tup [z,y]))
theorem vRev{K:yg}{c:TE}{d:TO}{Q:VK}(h:c σ H fun x e=>d σ e fun o b=>o=some (-1)/\∃ a y z,x=.ref a/\SqT K b a [y,z]/\∀ p,b p=none->Q (.ref p) (upd b p (.tup [z,y]))):qf5 K c d σ H Q:=h
section
variable{X:Cx}{K:yg}{e st:Expr}{te:TE}{ts:TO}{p2 pos:Pos}
theorem qeD(C:X.K=K)(D:PE X e te)(E:PO X (some st) ts):PE X (.Subscript e (.Slice none none (some st) p2) pos) (qf5 K te ts):=by
 subst C;intro c s σ H Q I h;show Subscript_ (thn (D c s σ H _ I h) fun v N ⟨x,m,p,M,L⟩=>?_);show kR ?_;rw[XG];show yv ?_;show yv ?_;show thn (E c N σ m _ p L) fun l d ⟨o,n,t,pt,u,a,y,z,B,F,q⟩=>?_;subst u B;cases M;have f:Inv X c σ n { d with heap:=d.heap.push { cls:=.type "slice",data:=.fields #[.none,.none,l] } }:=t.kept (t':=d.toks) fun b J q=>yt _ q;obtain⟨G,r,j,O⟩:=f.tuple F;obtain⟨P,R,rfl,g,i⟩:=qdo r;show wpAny (model X.prog X.w) X.A (subscriptTail e (.Slice none none (some st) p2) (.ref a) (.ref d.heap.objs.size)) (EP X c σ Q) X.xe { d with heap:=d.heap.push { cls:=.type "slice",data:=.fields #[.none,.none,l] } };show tail_any (ops:=[.ref a,.ref d.heap.objs.size]) j.typeIs YA.lookup (HT.getItem_pair_rev j (Xm ..) pt ?_) (by with_unfolding_all rfl);show⟨.ref _,_,f.laid (t':=d.toks) (o:=.tup [z,y]) (fun b J q=>yt _ q) (yh _) ?_,rfl,q _ (f.hok.fresh (yh _))⟩;show⟨by show 2<=sizeLine;decide,_,.cons i (.cons g .nil),IsTup.new _ _⟩
def rTupleU(K:yg):List V->Hp->VK->Prop:=fun xs H Q=>∃ p a,xs=[.ref p]/\((SqL K H p a/\∀ l,H l=none->Q (.ref l) (upd H l (.tup a)))\/(SqT K H p a/\Q (.ref p) H))
theorem k_tupleU(a:X.K=K):jX X (.type "tuple") (rTupleU K):=by subst a;show call_tuple_of
end
noncomputable def Ite(K:yg)(a:Addr):It:=
 ⟨fun i H=>∃ xs x,SqL K H a xs/\xs[i]?=some x,fun i H x H'=>∃ t y,x=.ref t/\H t=none/\H'=upd H t (.tup [.int i,y])/\∀ xs,SqL K H a xs->xs[i]?=some y,fun i H=>∃ xs,SqL K H a xs/\xs.length<=i⟩
def iEnum(K:yg)(c:TA):TI:=fun σ H R=>c σ H fun vs b=>∃ a xs,vs=[.ref a]/\SqL K b a xs/\R (Ite K a) b
theorem vEnum{K:yg}{b:TA}{R:It->Hp->Prop}(h:b σ H fun vs c=>∃ a xs,vs=[.ref a]/\SqL K c a xs/\R (Ite K a) c):iEnum K b σ H R:=h
section
variable{X:Cx}
end
end L2
namespace L2
open PySem PySem.Spec PyProof.Rows PySem.Builtin PySem.Builtin.Str
theorem qfu{a c:Nat}(h:a+100<c):a+1<c:=by lk
theorem vDGet2{e ty f:TE}{b:St}{H:Hp}{Q:VK}(h:e b H fun x c=>∃ a,x=.ref a/\IsD c a/\ty b c fun y g=>f b g fun z d=>∃ o,DGet d a y o/\Q (o.getD z) d):tDGet2 e ty f b H Q:=h
end L2
namespace L2
open PySem PySem.Spec PyProof.Rows
theorem eqV_strD(a b:Str):eqV (.str a) (.str b)=decide (a=b):=by
 have e:eqV (.str a) (.str b)=(a==b):=by simp[eqV]
 rw[e,xD,yY,xP]
theorem qb8:∀(c:LS) (y:Str) (m:Nat) (b:m<c.length),m<c.idxOf y->c[m]≠y
 | [],_,_,b,_=>by simp at b
 | a::r,y,m,b,h=>by
  rw[List.idxOf_cons] at h;by_cases e:a=y
  .subst e;simp at h
  .have hb:(a==y)=false:=Yr.mpr e;rw[hb] at h
   cases m with
   | zero=>show e
   | succ k =>
    have d:k<r.idxOf y:=by
     have h:k+1<r.idxOf y+1:=h;lk
    show qb8 r y k (by simpa using b) d
section
variable{X:Cx}{K:yg}
def rIndex(K:yg):V->List V->Hp->VK->Prop:=fun x vs H Q=>∃(p:Addr) (a:LS) (y:Str),x=.ref p/\vs=[.str y]/\SqL K H p (a.map V.str)/\y∈a/\Q (.int (a.idxOf y:Nat)) H
theorem qdQ(C:X.K=K):MtR X "list.index" (rIndex K):=by
 subst C;intro A s P H x vs v us Q I M L h;obtain⟨p,b,y,rfl,rfl,D,G,q⟩:=h;cases M;obtain⟨u,rfl,J⟩:=L.one;obtain⟨a,r,pl,z⟩:=I.list D;obtain⟨⟨cls,B,data,N⟩,t,hc,n,o⟩:=id pl.isList;simp only at hc o;subst hc o;have fs:(b.map V.str).all zQ=true:=by rw[kK];show YD.mpr fun _ _=>rfl
 have c:(b.map V.str).length=a.length:=r.length;rw[ya] at c;have f:b.idxOf y<b.length:=List.idxOf_lt_length_iff.mpr G
 have at_:∀(m:Nat) (j:m<b.length) (d:m<a.toArray.size),eqU (.str y) a.toArray[m]=decide (b[m]=y):=fun m j d=>by
  have g:(b.map V.str)[m]?=some (.str b[m]):=by rw[yd,yb j];rfl
  obtain⟨w,hw,l⟩:=r.get g
  have e:a.toArray[m]=w:=by
   have:a.toArray[m]?=some w:=by simpa using hw
   rw[xB d] at this;show ym this
  rw[e,qdG l rfl,eqV_strD]
 have O:b.length<=sizeLine:=by rw[ya] at z;show z
 have E:sizeLine<2 ^ 63-1:=by decide
 show kg Xp ⟨_,t,rfl⟩ PySem.F.entry_list_index (PySem.F.args_list_index_2 _ _)
  (SeqAt.list_indexAt p a.toArray n B N u (eqU (.str y)) (b.idxOf y) (by simpa [<- c] using f) (by lk) ?_ ?_) ⟨t,fun w hw=>zK J rfl r fs w (by simpa using hw),.int _,H,I.tok _,⟨_,rfl⟩,q⟩
 .rw [at_ _ f];show yD (ki f)
 .intro m j i;rw[at_ m (by lk)];show yl fun e=>qb8 b y m (by lk) i e
end
theorem slice_ixD(k n:Nat):Builtin.Str.strSliceIndices (some (k:Int)) none 1 n=(List.range (n-k)).map (k + ·):=by
 unfold Builtin.Str.strSliceIndices sliceRange;simp only[show(1:Int)>0 by decide,Xi];rw[yB (show ¬ ((k:Int)<0) by lk)];have a:max 0 (min (k:Int) n)=((min k n:Nat):Int):=by lk
 rw[a];by_cases c:k<=n
 .rw [Nat.min_eq_left c];have b:(fun(j:Nat)=>((k:Int)+1*(j:Int)).toNat)=(k + ·):=by funext j;lk
  rw[b]
  congr 2
  split
  .rw [kW];lk
  .omega
 .rw [Nat.min_eq_right (by lk),show n-k=0 by lk];rw[yB (by lk)];rfl
theorem qdR(a:Array Nat)(k:Nat):∀ m,k+m<=a.size->((List.range m).map (k + ·)).filterMap (a[·]?)=(a.toList.drop k).take m
 | 0,_=>by simp
 | m+1,h=>by
  rw[xR,yE,List.filterMap_append,qdR a k m (by lk),yR]
  congr 1
  have e:a[k+m]?=some a[k+m]:=xB (by lk);have b:(a.toList.drop k)[m]?=some a[k+m]:=by rw[List.getElem?_drop,xV];show e
  rw[b,yJ,YO,e];rfl
theorem slice_drop(z:Str)(k:Nat):(Txt.slice z (some (k:Int)) none).cps.toList=z.cps.toList.drop k:=by
 unfold Txt.slice;rw[slice_ixD];have b:z.length=z.cps.toList.length:=by simp[Str.length]
 split
 .rename_i h
  rw[ya,Yk] at h;have h:z.length-k=z.length:=by simpa using h
  by_cases a:k=0
  .subst a;rw[List.drop_zero]
  .have:z.cps.toList=[]:=Xq.mp (by lk);rw[this];simp
 .show(List.filterMap _ _).toArray.toList=_;by_cases a:k<=z.length
  .have:=qdR z.cps k (z.length-k) (by show k+(z.length-k)<=z.length;lk);rw[this];show YU (by rw[xJ];lk)
  .rw [show z.length-k=0 by lk,List.drop_of_length_le (by lk)];rfl
section
variable{X:Cx}{K:yg}
def rNotT(K:yg):R2:=fun x y H Q=>∃ p xs e n,y=.ref p/\SqT K H p xs/\n<=60/\(∀ z∈xs,EqD K H n z x (e z))/\Q (.bl (!xs.any e)) H
theorem k_notinT(d:X.K=K)(m:X.A.units+100<cLine):OpR X (compareOp .NotIn) (rNotT K):=by
 subst d;intro a s t H x y u v Q I i j h;obtain⟨p,xs,e,n,rfl,hl,l,f,q⟩:=h;cases j;obtain⟨g,r,pl,o⟩:=I.tuple hl;obtain⟨b,h1,c⟩:=qdN (A:=X.A.in1) I r i (by show X.A.units+1+n<cLine;lk) f;show SeqAt.notIn_tupleAt b pl h1 (by rw[c];show⟨.bl _,H,I,rfl,q⟩)
end
end L2
namespace HT
open PySem PySem.Spec PyProof.Rows
section
variable{prog:Program}{w:World}{A:Around}{E:Value->Shared->Prop}{s:Shared}
end
end HT
namespace L2
open PySem PySem.Spec PyProof.Rows
def tStep(K:yg)(e:TE)(f:TO):TE:=fun c H Q=>e c H fun x d=>f c d fun o b=>∃ a y z,x=.ref a/\SqT K b a [y,z]/\((o=some (-1)/\∀ p,b p=none->Q (.ref p) (upd b p (.tup [z,y])))\/(o=some 1/\Q (.ref a) b))
theorem vStep{K:yg}{d:TE}{e:TO}{c:St}{H:Hp}{Q:VK}(h:d c H fun x f=>e c f fun o b=>∃ a y z,x=.ref a/\SqT K b a [y,z]/\((o=some (-1)/\∀ p,b p=none->Q (.ref p) (upd b p (.tup [z,y])))\/(o=some 1/\Q (.ref a) b))):tStep K d e c H Q:=h
section
variable{X:Cx}{K:yg}{e st:Expr}{te:TE}{ts:TO}{p2 pos:Pos}
end
def FG(K:yg)(a:Str)(st:Stmt):Prop:=∃ f b,PySem.W.nsIn K mainGlobals a=some (some (.ref f))/\Fun K a a st f b
def FM(K:yg)(C:Addr)(m b:Str)(st:Stmt):Prop:=∃ f a,PySem.W.findIn K (.ref C) m=some (some (.ref f))/\PySem.W.isFn K (.ref f)=true/\Fun K m b st f a
def FC(K:yg)(C:Addr)(m b:Str)(st:Stmt):Prop:=∃ f a,PySem.W.findCls K (.ref C) (.type "type") m=some (.val (.ref f))/\Fun K m b st f a
structure XQ(K:yg)(C:Addr):Prop where
 xa:PySem.W.findIn K (.ref C) "__getattribute__"=some (some (.builtin "BaseException.__getattribute__"))
 xb:PySem.W.findIn K (.ref C) "__getattr__"=some none
 xd:PySem.W.mroIn K C (.type "BaseException")=some true
 xe:PySem.W.mroIn K C (.type "object")=some true
 xf:PySem.W.hasDictIn K C=true
 xg:PySem.W.findIn K (.ref C) "__class__"=some (some (.builtin "object.__class__"))
 xh:PySem.W.findIn K (.ref C) "__setattr__"=some (some (.builtin "object.__setattr__"))
 p:PySem.W.keepIn K (.ref C)=true
section
variable{P:Program}{w:World}{K:yg}{mg:Str->Option Value}{base h:Heap}{CX:CXT}{k:Nat}{sp:Sp}{st:Stmt}{f:Addr}{fd:FuncData}{ps:LS}{nm m ql x:Str}{C:Addr}
theorem lN0{P:List Value->Prop}(h:P []):∀ us:List Value,us.length=0->P us:=fun us e=>by rw[List.eq_nil_of_length_eq_zero e];show h
theorem lNs{P:List Value->Prop}{n:Nat}(h:∀ a r,r.length=n->P (a::r)):∀ us:List Value,us.length=n+1->P us:=fun us e=>by
 cases us with
 |nil=>cases e
 |cons a r=>show h a r (Nat.succ.inj e)
theorem lN1{P:List Value->Prop}(h:∀ a,P [a]):∀ us:List Value,us.length=1->P us:=lNs fun a=>lN0 (h a)
theorem lN2{P:List Value->Prop}(h:∀ a b,P [a,b]):∀ us:List Value,us.length=2->P us:=lNs fun a=>lN1 (h a)
theorem lN3{P:List Value->Prop}(h:∀ a b c,P [a,b,c]):∀ us:List Value,us.length=3->P us:=lNs fun a=>lN2 (h a)
theorem lN4{P:List Value->Prop}(h:∀ a b c d,P [a,b,c,d]):∀ us:List Value,us.length=4->P us:=lNs fun a=>lN3 (h a)
theorem lN5{P:List Value->Prop}(h:∀ a b c d e,P [a,b,c,d,e]):∀ us:List Value,us.length=5->P us:=lNs fun a=>lN4 (h a)
abbrev BA(x ql:Str)(st:Stmt)(ps:LS):Prop:=∀(kV b d:Value) (c:Option Addr) (a ct:Value) (us:List Value),us.length=ps.length->bindArgs (PySem.W.fnOf x ql (zV st) (jE st) (qg st) .none kV b d c a ct) ⟨us,[]⟩=pure (ps.zip us)
theorem fg_mk(X:K.In h)(G:h.Ns mainGlobals mg)(a:PySem.W.nsIn K mainGlobals nm=some (some (.ref f)))(F:Fun K nm nm st f fd)(o:FnOk P w K mg base CX k f fd ps sp)
  (hb:BA nm nm st ps:=by first | (show fun _ _ _ _ _ _=>lN1 fun _=>rfl) | (show fun _ _ _ _ _ _=>lN2 fun _ _=>rfl) | (show fun _ _ _ _ _ _=>lN3 fun _ _ _=>rfl) | (show fun _ _ _ _ _ _=>lN4 fun _ _ _ _=>rfl)) :
  DefOk P w K mg base CX k nm ps sp:=⟨_,_,o,kz X G a,F.kp,F.binds hb⟩
theorem fm_mk(b:Cls K C)(a:PySem.W.findIn K (.ref C) m=some (some (.ref f)))(n:PySem.W.isFn K (.ref f)=true)(F:Fun K m ql st f fd)(o:FnOk P w K mg base CX k f fd ps sp)
  (hb:BA m ql st ps:=by first | (show fun _ _ _ _ _ _=>lN1 fun _=>rfl) | (show fun _ _ _ _ _ _=>lN2 fun _ _=>rfl) | (show fun _ _ _ _ _ _=>lN3 fun _ _ _=>rfl) | (show fun _ _ _ _ _ _=>lN4 fun _ _ _ _=>rfl)) :
  MethOk P w K mg base CX k C m ps sp:=⟨⟨_,_,o,⟨a,n,F.kp⟩,F.binds hb⟩,b⟩
theorem fw_mk(X:K.In h)(G:h.Ns mainGlobals mg)(c:PySem.W.nsIn K mainGlobals x=some (some (.ref C)))(b:PySem.W.makesIn K C=true)(d:PySem.W.keepIn K (.ref C)=true)(a:PySem.W.findIn K (.ref C) "__init__"=some (some (.ref f)))(n:PySem.W.isFn K (.ref f)=true)(F:Fun K "__init__" ql st f fd)(o:FnOk P w K mg base CX k f fd ps sp)
  (hb:BA "__init__" ql st ps:=by first | (show fun _ _ _ _ _ _=>lN1 fun _=>rfl) | (show fun _ _ _ _ _ _=>lN2 fun _ _=>rfl) | (show fun _ _ _ _ _ _=>lN3 fun _ _ _=>rfl)) :
  MakeOk P w K mg base CX k C x ps sp:=⟨⟨_,_,o,⟨b,a,n,d⟩,F.binds hb⟩,kz X G c⟩
theorem fx_mk(X:K.In h)(G:h.Ns mainGlobals mg)(c:PySem.W.nsIn K mainGlobals x=some (some (.ref C)))(Y:XAt K C)(q:XQ K C)(a:PySem.W.findIn K (.ref C) "__init__"=some (some (.ref f)))(n:PySem.W.isFn K (.ref f)=true)(F:Fun K "__init__" ql st f fd)(o:FnOk P w K mg base CX0 k f fd ps sp)
  (hb:BA "__init__" ql st ps:=by first | (show fun _ _ _ _ _ _=>lN1 fun _=>rfl) | (show fun _ _ _ _ _ _=>lN2 fun _ _=>rfl)) :
  XMakeOk P w K mg base k C x ps sp:=⟨⟨_,_,o,⟨Y,a,n,q.p⟩,F.binds hb⟩,kz X G c⟩
theorem fc_mk(X:K.In h)(G:h.Ns mainGlobals mg)(c:PySem.W.nsIn K mainGlobals x=some (some (.ref C)))(a:PySem.W.readsIn K C (.type "type")=true)(b:PySem.W.findCls K (.ref C) (.type "type") m=some (.val (.ref f)))(d:PySem.W.specialIn K (.ref C) "__getattribute__"=some (some (.builtin "type.__getattribute__")))(F:Fun K m ql st f fd)(o:FnOk P w K mg base CX k f fd ps sp)
  (hb:BA m ql st ps:=by(show fun _ _ _ _ _ _=>lN2 fun _ _=>rfl)) :
  CMethOk P w K mg base CX k C x m ps sp:=⟨⟨_,_,o,⟨a,b,d,F.kp⟩,F.binds hb⟩,kz X G c⟩
theorem qe2{c:List Value}(x:XL K C c)(hb:qbI c=true)(q:XQ K C)(a:PySem.W.specialIn K (.builtin "object.__class__") "__get__"=some (some (.builtin "getset_descriptor.__get__")))(b:PySem.W.takesIn K (.builtin "object.__class__")=some true):XAt K C:=x.xat hb q.xa q.xb q.xd q.xe q.xf q.xg a b q.xh
end
end L2
namespace HT
open PySem PySem.Spec PyProof.Rows
section
variable{prog:Program}{w:World}{A:Around}{E:Value->Shared->Prop}{s:Shared}
end
end HT
namespace L2
open PySem PySem.Spec PyProof.Rows
variable{H:Hp}{te:TE}{σ:St}
section
variable{X:Cx}{K:yg}{pos p:Pos}{x:Str}
end
section
variable{X:Cx}{K:yg}{e lo st:Expr}{te:TE}{tl ts:TO}{p2 pos:Pos}
def qf6(K:yg)(te:TE):TI:=fun σ H R=>te σ H fun v b=>∃ a xs,v=.ref a/\SqL K b a xs/\R (Itl K a) b
theorem viLst{K:yg}{R:It->Hp->Prop}(h:te σ H fun v b=>∃ a xs,v=.ref a/\SqL K b a xs/\R (Itl K a) b):qf6 K te σ H R:=h
theorem ki_lst{u:Expr}(l:X.K=K)(m:PE X e te):PI X u e (qf6 K te):=by
 subst l;intro c s σ H R I h;show thn (m c s σ H _ I h) fun v d ⟨y,g,f,t,a,xs,i,n,q⟩=>?_;subst i;cases t
 have j:∀ b∈[d.heap.objs.size],qdn X c g b:=fun b hb=>by
  have e:b=d.heap.objs.size:=by simpa using hb
  subst e;show f.fpOk (yh _) (f.hok.fresh (yh _))
 obtain⟨r,x,p,w⟩:=f.list n;show Xy p.isList ⟨d.heap.objs.size,[d.heap.objs.size],_,_,g,rfl,f.kept (t':=d.toks) fun b o e=>yt _ e,qbM a _,⟨_,yK _ rfl,rfl,rfl⟩,j,q⟩
end
def qf7(K:yg)(te:TE)(d:TO):TE:=fun σ H Q=>te σ H fun x c=>d σ c fun o b=>o=some (-1)/\∃ a xs,x=.ref a/\SqL K b a xs/\∀ p,b p=none->Q (.ref p) (upd b p (.lst xs.reverse))
theorem vRvL{K:yg}{c:TO}{Q:VK}(h:te σ H fun x d=>c σ d fun o b=>o=some (-1)/\∃ a xs,x=.ref a/\SqL K b a xs/\∀ p,b p=none->Q (.ref p) (upd b p (.lst xs.reverse))):qf7 K te c σ H Q:=h
theorem qc1:∀{xs:List V} {us:List Value},Vals xs us->Vals xs.reverse us.reverse
 | _,_,.nil=>.nil
 | _,_,.cons r t=>by
  rw[List.reverse_cons,List.reverse_cons];show(qc1 t).append (.cons r .nil)
section
variable{X:Cx}{K:yg}{e st:Expr}{te:TE}{ts:TO}{p2 pos:Pos}
theorem pe_rvL(y:X.K=K)(z:PE X e te)(B:PO X (some st) ts):PE X (.Subscript e (.Slice none none (some st) p2) pos) (qf7 K te ts):=by
 subst y;intro c s σ H Q I h;show Subscript_ (thn (z c s σ H _ I h) fun v L ⟨x,l,n,J,G⟩=>?_);show kR ?_;rw[XG];show yv ?_;show yv ?_;show thn (B c L σ l _ n G) fun j d ⟨o,m,p,pt,t,a,xs,u,C,q⟩=>?_;subst t u;cases J;have f:Inv X c σ m { d with heap:=d.heap.push { cls:=.type "slice",data:=.fields #[.none,.none,j] } }:=p.kept (t':=d.toks) fun b F q=>yt _ q;obtain⟨E,r,i,D⟩:=f.list C;have g:=r.length;show wpAny (model X.prog X.w) X.A (subscriptTail e (.Slice none none (some st) p2) (.ref a) (.ref d.heap.objs.size)) (EP X c σ Q) X.xe { d with heap:=d.heap.push { cls:=.type "slice",data:=.fields #[.none,.none,j] } };show tail_any (ops:=[.ref a,.ref d.heap.objs.size]) i.isList.typeIs Xv.lookup (Xh i.isList (Xm ..) .none .none pt (by decide) ?_ (by rw[yw]<;>lk)) (by with_unfolding_all rfl);rw[PySem.W.krv_pick];show⟨.ref _,_,f.laid (t':=d.toks) (o:=.lst xs.reverse) (fun b F q=>yt _ q) (yh _) ?_,rfl,q _ (f.hok.fresh (yh _))⟩;show⟨by rw[xn];show D,_,0,qc1 r,yK _ rfl⟩
end
section
variable{X:Cx}{a:Expr}{ta:TA}{p p2 pos pos2:Pos}
end
end L2
namespace L2
structure Sb(V:Nat->Prop):Prop where
 z:V 0
 a:∀ x y,V x->V y->V (x ^^^ y)
def jn(V:Nat->Prop)(x:Nat):Nat->Prop:=fun y=>V y\/V (y ^^^ x)
def Spn:LN->Nat->Prop
 | []=>fun y=>y=0
 | a::L=>jn (Spn L) a
open Classical in
def Bnd(b n v:Nat):Prop:=∀ i,v.testBit i=true->b<=i/\i<b+n
open Classical in
noncomputable def swp:Nat->Nat->LN->Nat
 | 0,_,_=>0
 | n+1,b,L=>match L.filter (fun v=>v.testBit b) with
  | []=>swp n (b+1) L
  | p::t=>1+swp n (b+1) (L.filter (fun v=>!v.testBit b)++t.map fun v=>v ^^^ p)
open Classical in
noncomputable def rk(L:LN):Nat:=swp 30 0 L
open Classical in
noncomputable def les:Nat×Nat->List (Nat×Nat)->Nat×Nat
 | s,[]=>s
 | s,o::os=>if s.1 ^^^ o.1<s.1 then les (s.1 ^^^ o.1,s.2 ^^^ o.2) os else les s os
structure Ech(os:List (Nat×Nat)):Prop where
 nz:∀ o∈os,o.1≠0
 pw:os.Pairwise fun a b=>b.1.testBit a.1.log2=false
noncomputable def csm:LN->Nat->Nat->Nat
 | [],_,_=>0
 | a::L,k,c=>(if c.testBit k then a else 0) ^^^ csm L (k+1) c
noncomputable def stp(st:List (Nat×Nat))(n v:Nat):List (Nat×Nat):=if (les (v,1 <<< n) st).1=0 then st else st++[les (v,1 <<< n) st]
structure Stp(L:LN)(n:Nat)(st:List (Nat×Nat)):Prop where
 ech:Ech st
 sum:∀ o∈st,csm L 0 o.2=o.1
 low:∀ o∈st,o.2<2 ^ n
 lt:∀ o∈st,o.1<2 ^ 30
 spn:∀ v,Spn (st.map (·.1)) v↔Spn (L.take n) v
 free:st.map (fun o=>o.2.log2)=(List.range n).filter fun i=>decide (rk (L.take i)<rk (L.take (i+1)))
 len:st.length<=n
end L2
namespace L2
open PySem PySem.Spec PyProof.Rows
section
variable{X:Cx}
end
def Fl:V->Prop
 | .non=>True
 | .bl _=>True
 | .int i=>-999999999999<=i/\i<=999999999999
 | _=>False
noncomputable def fD:V->PyData
 | .non=>.none
 | .bl b=>.bool b
 | .int i=>.int i
 | .str x=>.str x
 | _=>.none
def FlS(xs:List V):Prop:=xs.length<=1000/\∀ x∈xs,Fl x
def ShwT(H:Hp)(v:V)(t:Str):Prop:=match v with
 | .non=>t="None"
 | .bl b=>t=if b then Str.ofString "True" else Str.ofString "False"
 | .int i=>i.natAbs.log2<1920/\t=toString i
 | .str x=>(reprText x).length<=sizeLine/\t=reprText x
 | .ref p=>(∃ xs,H p=some (.lst xs)/\FlS xs/\t=(PyData.list (xs.map fD)).shown)\/∃ xs,H p=some (.tup xs)/\FlS xs/\t=(PyData.tuple (xs.map fD)).shown
 | _=>False
section
variable{X:Cx}{K:yg}
end
section
variable{K:yg}{a:Addr}{xs:List V}{g:TG}{tc:TT}{te:TE}{σ':St}{H1:Hp}{Q:V->Hp->Prop}
end
section
variable{K:yg}{a b:Addr}{xs ys:List V}{g:TG}{tc:TT}{te:TE}{σ':St}{H1:Hp}{Q:V->Hp->Prop}
end
section
variable{X:Cx}{K:yg}
def rSorted(K:yg):List V->Hp->VK->Prop:=fun xs H Q=>∃(p:Addr) (ns:LQ),xs=[.ref p]/\SqL K H p (ns.map V.int)/\ns.length<64/\∀(l:Addr) (a:LQ),H l=none->a.Perm ns->a.Pairwise (·<=·)->Q (.ref l) (upd H l (.lst (a.map V.int)))
theorem k_sorted(m:X.K=K):jX X (.builtin "sorted") (rSorted K):=by
 subst m;intro f s z H xs us Q I r h;obtain⟨p,ns,rfl,v,j,q⟩:=h;obtain⟨u,rfl,x⟩:=qaa r;cases x;obtain⟨a,g,pl,y⟩:=I.list v;have l:IntsAre a ns:=intsAre_of g;have hl:a.length<64:=by have:=g.length;rw[ya] at this;lk
 show PyProof.Rows.sorted_ints (vs:=a) pl.isList l hl fun out c h1 d i=>?_;obtain⟨e,n⟩:=PyProof.Rows.sortedAll_at s.heap a out;have t:H (s.heap.objs.size+1)=none:=I.hok.fresh (xF _);have hv:=qad h1
 have new:ObjOk X.prog X.w (upd H (s.heap.objs.size+1) (.lst (c.map V.int))) (PyProof.Rows.sortedAll s.heap a out) (s.heap.objs.size+1) (.lst (c.map V.int)):=by
  show⟨?_,out.toList,e,hv,?_⟩
  .rw [ya,d.length_eq];show yP (qi (by lk))
  .rw [n]
 show⟨.ref (s.heap.objs.size+1),_,I.laid (t':=s.toks) (fun b o e=>PyProof.Rows.sortedAll_old e) (xF _) new,rfl,q _ c t d i⟩
end
section
variable{X:Cx}{K:yg}{e st:Expr}{te:TE}{ts:TO}{p2 pos:Pos}
end
mutual
inductive Dat(H:Hp):V->PyData->Prop
 | non:Dat H .non .none
 | bl (b:Bool):Dat H (.bl b) (.bool b)
 | int (i:Int):Dat H (.int i) (.int i)
 | str (x:Str):Dat H (.str x) (.str x)
 | lst {a:Addr} {xs:List V} {ds:List PyData}:H a=some (.lst xs)->DatS H xs ds->Dat H (.ref a) (.list ds)
 | tup {a:Addr} {xs:List V} {ds:List PyData}:H a=some (.tup xs)->DatS H xs ds->Dat H (.ref a) (.tuple ds)
 | dnil {a:Addr}:H a=some (.dK [])->Dat H (.ref a) (.dict [])
inductive DatS(H:Hp):List V->List PyData->Prop
 | nil:DatS H [] []
 | cons {v:V} {vs:List V} {d:PyData} {ds:List PyData}:Dat H v d->DatS H vs ds->DatS H (v::vs) (d::ds)
end
theorem Dat.same{H H':Hp}(s:Same H H'){v:V}{d:PyData}(h:Dat H v d):Dat H' v d:=
 Dat.rec (H:=H) (motive_1:=fun v d _=>Dat H' v d) (motive_2:=fun vs c _=>DatS H' vs c) .non .bl .int .str (fun e _ r=>.lst (s _ _ e) r) (fun e _ r=>.tup (s _ _ e) r) (fun e=>.dnil (s _ _ e)) .nil (fun _ _ a b=>.cons a b) h
theorem DatS.app{H:Hp}:∀{xs d:List V} {c es:List PyData},DatS H xs c->DatS H d es->DatS H (xs++d) (c++es)
 | _,_,_,_,.nil,h=>h
 | _,_,_,_,.cons a b,h=>.cons a (b.app h)
structure Shw(d:PyData)(n m:Nat):Prop where
 s:d.showable=true
 l:d.leavesShort 13=true
 b:d.bulk<=n
 p:d.depth<=m
structure ShwS(ds:List PyData)(n m:Nat):Prop where
 s:PyData.showableAll ds=true
 l:PyData.leavesShortAll 13 ds=true
 b:PyData.bulkAll ds<=n
 p:PyData.depthAll ds<=m
theorem ShwS.nil{m:Nat}:ShwS [] 0 m:=⟨rfl,rfl,yh _,yU _⟩
theorem ShwS.cons{d:PyData}{a:List PyData}{n c m:Nat}(h:Shw d n m)(r:ShwS a c m):ShwS (d::a) (n+1+c) m:=
  ⟨by show(PyData.showable d&&PyData.showableAll a)=true;rw[h.s,r.s];rfl,by show(PyData.leavesShort 13 d&&PyData.leavesShortAll 13 a)=true;rw[h.l,r.l];rfl,
   by have:=h.b;have:=r.b;show PyData.bulk d+1+PyData.bulkAll a<=_;lk,
   by have:=h.p;have:=r.p;simp only[PyData.depthAll];lk⟩
theorem ShwS.mono{a:List PyData}{n d m c:Nat}(h:ShwS a n m)(f:n<=d)(e:m<=c):ShwS a d c:=⟨h.s,h.l,yi h.b f,yi h.p e⟩
theorem Shw.mono{d:PyData}{n c m a:Nat}(h:Shw d n m)(f:n<=c)(e:m<=a):Shw d c a:=⟨h.s,h.l,yi h.b f,yi h.p e⟩
theorem ShwS.list{a:List PyData}{n m:Nat}(h:ShwS a n m):Shw (.list a) n (m+1):=
 ⟨by simpa only[PyData.showable] using h.s,by simpa only[PyData.leavesShort] using h.l,by simpa only[PyData.bulk] using h.b,by have:=h.p;simp only[PyData.depth];lk⟩
theorem ShwS.tuple{a:List PyData}{n m:Nat}(h:ShwS a n m):Shw (.tuple a) n (m+1):=
 ⟨by simpa only[PyData.showable] using h.s,by simpa only[PyData.leavesShort] using h.l,by simpa only[PyData.bulk] using h.b,by have:=h.p;simp only[PyData.depth];lk⟩
theorem ShwS.app{m:Nat}:∀{c es:List PyData} {n e:Nat},ShwS c n m->ShwS es e m->ShwS (c++es) (n+e) m
 | [],es,n,e,_,h=>h.mono (by lk) (yh _)
 | d::c,es,n,e,h,h'=>by
  have f:PyData.showable d=true/\PyData.showableAll c=true:=by simpa [PyData.showableAll] using h.s
  have hl:PyData.leavesShort 13 d=true/\PyData.leavesShortAll 13 c=true:=by simpa [PyData.leavesShortAll] using h.l
  have hb:PyData.bulk d+1+PyData.bulkAll c<=n:=h.b;have g:=h.p;simp only[PyData.depthAll] at g;have a:Shw d (PyData.bulk d) m:=⟨f.1,hl.1,yh _,by lk⟩;have b:ShwS c (PyData.bulkAll c) m:=⟨f.2,hl.2,yh _,by lk⟩;show(ShwS.cons a (b.app h')).mono (by lk) (yh _)
theorem Shw.non{m:Nat}:Shw .none 0 m:=⟨rfl,rfl,yh _,yU _⟩
theorem Shw.int{i:Int}{m:Nat}(h1:-999999999999<=i)(a:i<=999999999999):Shw (.int i) 0 m:=
 ⟨yD (log2_small (yj (show i.natAbs<2 ^ 40 by lk) (Nat.pow_le_pow_right (by decide) (by decide)))),yD (PyData.shown_int_le2 h1 a),yh _,yU _⟩
theorem Shw.str{x:Str}{m:Nat}(h:∀ c∈x.cps.toList,c<16 ^ 8):Shw (.str x) x.length m:=
 ⟨rfl,by simpa only[PyData.leavesShort,YD,decide_eq_true_eq] using h,yh _,yU _⟩
theorem Shw.dnil{m:Nat}:Shw (.dict []) 0 (m+1):=⟨rfl,rfl,yh _,by simp[PyData.depth,PyData.depthKv]⟩
section
variable{X:Cx}{K:yg}{pins:List (Addr×Obj)}{σ:List (Option V)}{H:Hp}{s:Shared}
theorem Dat.reads(I:Inv X pins σ H s)(L:H sysModules=none){v:V}{d:PyData}(h:Dat H v d):∀ u,RelV v u->∃ c,Reads s.heap u d c/\sysModules∉c:=
 Dat.rec (H:=H) (motive_1:=fun v d _=>∀ u,RelV v u->∃ c,Reads s.heap u d c/\sysModules∉c) (motive_2:=fun vs m _=>∀ us,Vals vs us->∃ c,ReadsAll s.heap us m c/\sysModules∉c)
  (fun u r=>⟨[],by cases r;show .none,nofun⟩) (fun b u r=>⟨[],by cases r;show .bool b,nofun⟩) (fun i u r=>⟨[],by obtain⟨t,rfl⟩:=r;show .int i t,nofun⟩) (fun x u r=>⟨[],by obtain⟨t,rfl⟩:=r;show .str x t,nofun⟩)
  (fun{a xs m} e _ B u r=>by
   cases r;obtain⟨z,f,n,F,g⟩:=I.hok a _ e;obtain⟨c,l,A⟩:=B f F;show⟨a::c,.list g rfl rfl (by rw[X7];show l),fun j=>?_⟩;rcases yA.mp j with z | z
   .rw [z,e] at L;cases L
   .show A z)
  (fun{a xs m} e _ B u r=>by
   cases r;obtain⟨f,F,⟨o,p,g,n,q⟩,_⟩:=I.tuple (SqT.of e);obtain⟨c,l,A⟩:=B f F;show⟨c,.tuple p g q (by rw[X7];show l),A⟩)
  (fun{a} e u r=>by
   cases r;obtain⟨z,J,vs,E,o,es,ep,p,g,q,O,G,P⟩:=qfl I.hok e;cases E;have K:es.toList=[]:=by cases w:es.toList with | nil=>rfl | cons y ys=>rw[w] at G;cases G
   show⟨a::[]++[],.dict p g.1 q (by rw[K];show .nil) (by rw[K];show .nil),fun j=>?_⟩;rcases yA.mp j with z | z
   .rw [<- z] at J;simp at J
   .cases z)
  (fun us r=>by cases r;show⟨[],.nil,nofun⟩)
  (fun _ _ C D us r=>by
   cases r with
   | cons r rr =>
    obtain⟨c,l,M⟩:=C _ r;obtain⟨bs,N,nb⟩:=D _ rr;show⟨c++bs,.cons l N,fun j=>(yH.mp j).elim M nb⟩) h
def rReprD:List V->Hp->VK->Prop:=fun xs H Q=>∃ v d,xs=[v]/\Dat H v d/\Shw d (2 ^ 20) 60/\Q (.str d.shown) H
theorem zX(n:X.K=K)(E:X.A.units+100<cLine)(f:X.A.guards=some [])(y:∃ o,K.lookup sysModules=some o):jX X (.builtin "repr") rReprD:=by
 subst n;intro pins s σ H xs us Q I r h;obtain⟨v,d,rfl,m,hw,q⟩:=h;obtain⟨u,rfl,a⟩:=qaa r;obtain⟨o,w⟩:=y;have t:H sysModules=none:=(I.bs _ _ (I.mod.kin _ _ w)).2;have hsz:d.shown.length<=sizeLine:=PyData.shown_fits_bulk (B:=13) (by decide) (by decide) hw.l hw.b;obtain⟨C,j,g⟩:=m.reads I t u a;have D:=hw.p
 cases m with
 | non=>cases a;show P.repr_of_none ⟨.str _,H,I.tok _,⟨_,rfl⟩,q⟩
 | bl b=>cases a;show P.repr_of_bool ⟨.str _,H,I.tok _,⟨_,rfl⟩,q⟩
 | int i=>obtain⟨tk,rfl⟩:=a;show P.repr_of_int (yk (by simpa only[PyData.showable] using hw.s)) ⟨.str _,H,I.tok _,⟨_,rfl⟩,q⟩
 | str x=>obtain⟨tk,rfl⟩:=a;show P.repr_of_str (hsz:=hsz) ⟨.str _,H,I.tok _,⟨_,rfl⟩,q⟩
 | lst e _=>cases a;show repr_of_reads' j hw.s (fun _=>g) f (by lk) (fun _ _ z=>z) (fun h' u tk c=>⟨.str _,H,I.kept (t':=tk) c,⟨_,rfl⟩,q⟩) hsz
 | tup e _=>cases a;show repr_of_reads' j hw.s (fun _=>g) f (by lk) (fun _ _ z=>z) (fun h' u tk c=>⟨.str _,H,I.kept (t':=tk) c,⟨_,rfl⟩,q⟩) hsz
 | dnil e=>cases a;show repr_of_reads' j hw.s (fun _=>g) f (by lk) (fun _ _ z=>z) (fun h' u tk c=>⟨.str _,H,I.kept (t':=tk) c,⟨_,rfl⟩,q⟩) hsz
end
section
variable{X:Cx}{tg elt iter:Expr}{ifs:List Expr}{scope sc1:Scope}{pos:Pos}{N N1:LS}{nl:Nat}{ixs:LN}{wi:TI}{g:TG}{tc:TT}{te:TE}{C1:Addr}{s1:Shared}{H1:Hp}{ex1:LI}
end
section
variable{X:Cx}{K:yg}
theorem qb9{e ty:TE}{b:St}{H:Hp}{Q:VK}(h:e b H fun x c=>∃ a,x=.ref a/\IsD c a/\ty b c fun y d=>∃ o,DGet d a y o/\Q (o.getD .non) d):qer e ty b H Q:=h
end
noncomputable abbrev Cx.soft(X:Cx):Cx:={ X with calm:=false }
structure RoomW(k:Nat)(A:Around):Prop where
 dp:A.depth+3*k+5<recursionLimit
 un:A.units+16*k+200<cLine
 gd:A.guards=some []
theorem RoomW.deeper{k:Nat}{A:Around}(r:RoomW (k+1) A)(env:Env):RoomW k (A.deeper env):=
 ⟨by have:=r.dp;show A.depth+1+3*k+5<_;lk,by have:=r.un;show A.units+3+16*k+200<_;lk,r.gd⟩
theorem Room.soft{j k:Nat}{A:Around}{h:Option Value}(r:Room k A)(l:j<=k):RoomW j (A.mark h):=⟨by have:=r.dp;show A.depth+3*j+5<_;lk,by have:=r.un;show A.units+16*j+200<_;lk,r.gd⟩
structure FnOkW(P:Program)(w:World)(K:yg)(mg:Str->Option Value)(base:Heap)(k:Nat)(f:Addr)(fd:FuncData)(ps:LS)(sp:Sp):Prop where
 len:∀ vs H Q E,sp vs H Q E->vs.length=ps.length
 run:∀(A:Around) (outer:List Env) (s:Shared) (H:Hp) (args:Args) (us:List Value) (vs:List V) (Q:VK) (E:XK),RoomW k A->Env0 P w K mg base A outer s H->BindsTo s fd args (ps.zip us)->Vals vs us->sp vs H Q E ->
  codeAny (model P w) A (.call (.ref f) args) (CR CX0 outer P w H s Q E) s
structure DefOkW(P:Program)(w:World)(K:yg)(mg:Str->Option Value)(base:Heap)(k:Nat)(x:Str)(ps:LS)(sp:Sp):Prop where
 ex:∃ f fd,FnOkW P w K mg base k f fd ps sp/\mg x=some (.ref f)/\PySem.W.keepIn K (.ref f)=true/\Binds K fd ps []
section
variable{X:Cx}{k:Nat}{f C:Addr}{fd:FuncData}{ps:LS}{sp:Sp}{x m:Str}{p pos apos:Pos}{e o:Expr}{es:List Expr}{ta:TE}{t:TA}
theorem run_fnW{a:List (Addr×Obj)}{d:St}{H:Hp}{s:Shared}{Q:VK}{us:List Value}{vs:List V}(F:FnOkW X.prog X.w X.K X.mg X.base k f fd ps sp)(g:RoomW k X.A)(hb:Binds X.K fd ps [])
  (I:Inv X a d H s) (r:Vals vs us) (h:sp (vs++[]) H Q E0):wpAny (model X.prog X.w) X.A (call (.ref f) us) (EP X a d Q) X.xe s:=by
 have c:Vals (vs++[]) (us++[]):=r.append .nil;have hl:(us++([]:List Value)).length=ps.length:=by rw[<- c.length];show F.len _ _ _ _ h
 show xj (Y6 (F.run X.A X.stack s H ⟨us,[]⟩ (us++[]) (vs++[]) Q E0 g I.env0 (hb s us I.kIn hl) c h) fun r s' b=>?_)
 cases r with
 | error e=>show False.elim b
 | ok fl =>
  cases fl with
  | ret u=>show I.after b
  | _=>show False.elim b
theorem pe_defW(D:DefOkW X.prog X.w X.K X.mg X.base k x ps sp)(n:RoomW k X.A)(g:PA X (e::es) t)(j:Gl X x:=by rfl)(b:(x==("__debug__":Str))=false:=by decide)
  (i:starEach (e::es) X.env=(false,eval e X.env)::starEach es X.env:=by rfl) (c:(backTo pos (starEach es X.env)).any (·.1)=false:=by rfl):PE X (.Call (.Name x p) (e::es) [] pos) (qco sp [] E0 t):=by
 obtain⟨f,fd,F,m,l,hb⟩:=D.ex;intro a s o H Q I h;show YR (zB I j m ?_ b);show Y4 (h₀:=X.base) I.ok.mod.kin l (thn (g pos a s o H _ I h) fun us v ⟨vs,u,d,r,q⟩=>⟨d.kIn,?_⟩) i c;show run_fnW F n hb d r q
end
section
variable{P:Program}{w:World}{K:yg}{mg:Str->Option Value}{base:Heap}
theorem inv_startW{N ps:LS}{c:Str}{scope:Scope}{f:Addr}{e:Value}{A:Around}{b:List Env}{s g:Shared}{H:Hp}{E:XK}{us:List Value}{vs:List V}
  (S:FnScope N ps scope) (d:Env0 P w K mg base A b s H) (hl:vs.length=ps.length) (r:Vals vs us)
  (x:InCallC s s.heap.objs.size (bindL (envOfC c scope s.heap.objs.size f e).kindOf (ps.zip us) fun _=>none) (cellsFrom (s.heap.objs.size+1) scope.names []) (bindC (envOfC c scope s.heap.objs.size f e).kindOf (ps.zip us) fun _=>none) g) :
  Inv (qcp CX0 P w K mg base N c scope f e A b s H E).nox.soft [] (start N vs) H g:=by
 have a:=qbU (CX:=CX0) (N:=N) (ps:=ps) (f:=f) (A:={ A with handled:=none }) (E:=E) S rfl (⟨d.frames,d.mod,d.bs,d.bsz,d.funs,d.frf,d.hok,d.bare⟩:Env0 P w K mg base { A with handled:=none } b s H) hl r x;show⟨⟨a.ok.mod,a.ok.kind,a.ok.glob,a.ok.blt,a.ok.above,a.ok.inj,a.ok.has,a.ok.cab,(fun h=>nomatch h),XM d.frames,a.ok.stk,a.ok.exf,a.ok.bs,a.ok.bsz,a.ok.noex,a.ok.exfs,a.ok.funs,a.ok.frf⟩,a.os,a.bare,a.base,a.loc,a.cell,a.free,a.freeC,a.pin,a.hok,a.len⟩
theorem fn_ofW{P:Program}{w:World}{K:yg}{mg:Str->Option Value}{base:Heap}{k:Nat}{f:Addr}{name c:Str}{g:Arguments}{body:List Stmt}{scope:Scope}{O kV m T d ct oc:Value}{M od:Option Addr}
  {F:Array (Option Value)} {N ps:LS} {sp:Sp} (lk:K.lookup f=some ⟨oc,od,.func (PySem.W.fnOf name c g body scope O kV m T M d ct),F⟩) (C:PySem.W.codeIn K d c=true) (S:FnScope N ps scope)
  (len:∀ vs H Q E,sp vs H Q E->vs.length=ps.length)
  (i:∀(A:Around) (a:List Env) (s:Shared) (H:Hp) (vs:List V) (Q:VK) (E:XK),RoomW k (A.deeper (envOfC c scope s.heap.objs.size f d))->sp vs H Q E ->
   ∃ t,PSs (qcp CX0 P w K mg base N c scope f d A a s H E).nox.soft body t/\t { nx:=fun _ H'=>Q .non H',rt:=Q } (start N vs) H) :
  FnOkW P w K mg base (k+1) f (PySem.W.fnOf name c g body scope O kV m T M d ct) ps sp:=by
 show⟨len,fun A a s H args us vs Q E R p hb r B=>?_⟩;have hl:=len _ _ _ _ B;have L:K.In s.heap:=p.mod.kin.keeps fun b o e=>(p.bs b o e).1;have D:s.heap.NoLimit:=p.mod.nolimit.keeps fun b o e=>(p.bs b o e).1
 have j:∀ y∈ps.zip us,scope.names.lookup y.1=some .local\/(scope.names.lookup y.1=some .cell/\((cellsFrom (s.heap.objs.size+1) scope.names []).lookup y.1).isSome=true):=fun⟨n,v⟩ hy=>by
  rcases S.par n (XU hy).1 with q | q
  .show .inl q
  .show .inr ⟨q,Xs _ _ _ (.inl q)⟩
 show codeAny_call_function (show A.depth<recursionLimit by have:=R.dp;lk) (L _ _ lk) rfl S.co S.gen rfl (PySem.W.codeRec_of L C) (hb _ _ _ _ ?_);show wpAny_newFunctionEnv_cells S.kind j fun env Y U x=>?_;subst Y;show⟨D.keeps x.toInCall.keep,codeAny_func ?_⟩;obtain⟨t,ht,Z⟩:=i A a s H vs Q E (R.deeper _) B;have I:Inv (qcp CX0 P w K mg base N c scope f d A a s H E).nox.soft [] (start N vs) H U:=inv_startW S p hl r x;show Ym (ht [] U (start N vs) H _ I Z) (fun X s' l=>?_) fun e s' l=>l.elim
 have z:∀{h:St} {H':Hp} {v:V} {u:Value},Inv (qcp CX0 P w K mg base N c scope f d A a s H E).nox.soft [] h H' s'->RelV v u->Q v H'->CE a P w H s Q u s':=
  fun{h H' v u} J G q=>⟨v,H',J.os,J.bare,J.base,J.hok,G,q⟩
 cases X with
 | ret u =>
  obtain⟨v,h,H',J,G,q⟩:=l;show z J G q
 | next =>
  obtain⟨h,H',J,q⟩:=l;show z (v:=V.non) (u:=Value.none) J rfl q
 | brk =>
  obtain⟨_,_,_,q⟩:=l;show False.elim q
 | cont =>
  obtain⟨_,_,_,q⟩:=l;show False.elim q
theorem Fun.okW{x b:Str}{st:Stmt}{f:Addr}{h:FuncData}{N ps:LS}{k:Nat}{sp:Sp}(F:Fun K x b st f h)(S:FnScope N ps (qg st))(len:∀ vs H Q E,sp vs H Q E->vs.length=ps.length)
  (d:∀(c:Value) (A:Around) (a:List Env) (s:Shared) (H:Hp) (vs:List V) (Q:VK) (E:XK),RoomW k (A.deeper (envOfC b (qg st) s.heap.objs.size f c))->sp vs H Q E ->
   ∃ t,PSs (qcp CX0 P w K mg base N b (qg st) f c A a s H E).nox.soft (jE st) t/\t { nx:=fun _ H'=>Q .non H',rt:=Q } (start N vs) H):FnOkW P w K mg base (k+1) f h ps sp:=by
 obtain⟨o,od,kV,i,p,n,c,ct,m,rfl,l,e⟩:=F.ex;show fn_ofW l e S len fun A a s H vs Q E j g=>d c A a s H vs Q E j g
end
theorem Inv.laidM{X:Cx}{a:List (Addr×Obj)}{g:St}{H H':Hp}{s:Shared}{h':Heap}{t':Nat}(I:Inv X a g H s)(k:∀ b u,s.heap.get? b=some u->h'.get? b=some u)
  (d:∀ b,b<s.heap.objs.size->H' b=H b) (new:∀ b u,s.heap.objs.size<=b->H' b=some u->ObjOk X.prog X.w H' h' b u):Inv X a g H' { s with heap:=h',toks:=t' }:=by
 have lt:∀ b u,H b=some u->b<s.heap.objs.size:=fun b u e=>kE fun z=>by rw[I.hok.fresh z] at e;cases e
 have f:∀ b u,H b=some u->H' b=some u:=fun b u e=>(d b (lt b u e)).trans e;show I.step (g':=s.gens) (d':=s.drawn) (ch:=[]) (fun b hb=>by simp at hb) (fun b o _ _ _ e _=>k b o e) (fun b o _ _ _ e _=>⟨o.slots,k b o e⟩) (fun b o _ e n=>(d b (yF e)).trans n)
  (fun b o _ e=>⟨o,k b o e⟩) (fun b xs e=>f b _ e) (fun b _ _ e=>f b _ e) (fun b ps e=>⟨#[],by rw[f b _ e];simp⟩) (fun m ⟨o,es,ep,h,r⟩=>⟨o,es,ep,k _ o h,r⟩) (fun b u e=>?_) I.bare
 by_cases hb:s.heap.objs.size<=b
 .show new b u hb e
 .rw [d b (kE hb)] at e;show(I.hok b u e).stay (fun c v _ q=>k c v q) (fun c q=>f c _ q) fun c xs q=>f c _ q
section
variable{prog:Program}{w:World}{A:Around}{E:Value->Shared->Prop}{s:Shared}
abbrev IsZp(h:Heap)(z TI TO:Addr)(b:Value)(a:Bool):Prop:=h.get? z=some { cls:=.type "zip",dict:=none,data:=.fields #[b,.bool a,.bool false,.ref TI,.ref TO],slots:=#[] }
def ZAt(z TI TO N:Nat)(h:Heap):Prop:=IsZip h z TI TO .none\/∃ T a o,N<=T/\IsZp h z TI TO (rawInt (T:Nat)) a/\h.get? T=some o
end
structure LZ(z TI TO i1 i2 a b S N:Nat)(xs ys:Array Value)(h0:Heap)(i:Nat)(acc:Array Value)(c:Nat)(h:Heap):Prop where
 zp:ZAt z TI TO N h
 ti:IsPair h TI (.ref i1) (.ref i2)
 tO:∃ u v,IsPair h TO u v
 j1:h.IsListIter i1 a i
 j2:h.IsListIter i2 b i
 la:h.IsList a xs
 lb:h.IsList b ys
 ls:h.get? S=some { cls:=.type "list",dict:=none,data:=.seq acc c,slots:=#[] }
 sz:N<=h.objs.size
 len:acc.size=i
 its:∀(j:Nat) v,acc[j]?=some v->∃ t x y,v=.ref t/\N<=t/\IsPair h t x y/\xs[j]?=some x/\ys[j]?=some y
 nd:∀(j k:Nat) v,acc[j]?=some v->acc[k]?=some v->j=k
 kp:∀ q o,q<N->q≠z->q≠TO->q≠i1->q≠i2->q≠S->h0.get? q=some o->h.get? q=some o
structure LE(z TO i1 i2 S N:Nat)(xs ys:Array Value)(h0:Heap)(n:Nat)(acc:Array Value)(c:Nat)(h:Heap):Prop where
 ls:h.get? S=some { cls:=.type "list",dict:=none,data:=.seq acc c,slots:=#[] }
 len:acc.size=n
 its:∀(j:Nat) v,acc[j]?=some v->∃ t x y,v=.ref t/\N<=t/\IsPair h t x y/\xs[j]?=some x/\ys[j]?=some y
 nd:∀(j k:Nat) v,acc[j]?=some v->acc[k]?=some v->j=k
 kp:∀ q o,q<N->q≠z->q≠TO->q≠i1->q≠i2->q≠S->h0.get? q=some o->h.get? q=some o
structure LA(z TI TO i1 i2 a b S N:Nat):Prop where
 D:ZipApart z TI TO i1 i2 a b
 lt:z<S/\TI<S/\TO<S/\i1<S/\i2<S/\a<S/\b<S
 S:S<N
section
variable{prog:Program}{w:World}{A:Around}{R:Result->Shared->Prop}{z TI TO i1 i2 a b S N:Nat}{xs ys:Array Value}{h0:Heap}
end
section
variable{prog:Program}{w:World}{A:Around}{E:Value->Shared->Prop}{s:Shared}
end
structure Zl(H H':Hp)(l:Addr)(ts:LI)(xs ys:List V):Prop where
 sm:L2.Same H H'
 fl:H l=none
 ls:H' l=some (.lst (ts.map V.ref))
 len:ts.length=min xs.length ys.length
 tp:∀(j:Nat) t,ts[j]?=some t->H t=none/\∃ x y,xs[j]?=some x/\ys[j]?=some y/\H' t=some (.tup [x,y])
section
variable{X:Cx}
end
section
variable{prog:Program}{w:World}{A:Around}{E:Value->Shared->Prop}{s:Shared}{a:Addr}
def TxS(w:World)(h:Heap)(a:Addr)(ss:LS):Prop:=
 ∃(es:Array (Int×Value)) (ep:Nat) (t:SetTable),h.get? a=some { cls:=.type "set",dict:=none,data:=.set es ep t } /\
  (∀ e∈es.toList,∃ k u,e=(hashStr w k,Value.str k u))/\(es.toList.map fun e=>strOf e.2).Perm ss/\t.fits es.size=true/\(es.size=0\/t.plain=false)/\es.size<scanBound
theorem TxS.keep{h h':Heap}{ss:LS}(x:TxS w h a ss)(e:∀ o,h.get? a=some o->h'.get? a=some o):TxS w h' a ss:=by
 obtain⟨es,ep,t,b,r⟩:=x;show⟨es,ep,t,e _ b,r⟩
theorem TxS.len{h:Heap}{ss:LS}{es:Array (Int×Value)}(p:(es.toList.map fun e=>strOf e.2).Perm ss):es.size=ss.length:=by
 rw[<- p.length_eq,ya,Yx]
theorem or_plain{t:SetTable}{n:Nat}(a:t.plain=false):(t.orStandIn n).plain=false:=by
 unfold SetTable.orStandIn;split
 .show a
 .rfl
theorem lay_plain{t:SetTable}{es:Array (Int×Value)}{h:Int}{x:Value}(a:t.plain=false):(layNew t es h x).2.1.plain=false:=by
 unfold layNew;split
 .show or_plain a
 .rfl
theorem laid_plain{m f v:Nat}{l p:Bool}{a:Array Int}{r:SetTable×Array Nat}(h:SetTable.laid m f v l p a=some r):r.1.plain=p:=by
 unfold SetTable.laid at h
 cases hc:SetTable.layClean m a with
 | none=>rw[hc] at h;cases h
 | some o=>rw[hc] at h;cases h;rfl
theorem relay_plain{t:SetTable}{es:Array (Int×Value)}{n:Nat}(a:t.plain=false):(relayAll t es n).2.1.plain=false:=by
 unfold relayAll;split
 .rename_i t' order h
  dsimp only;split
  .rw [laid_plain (r:=(t',order)) h];show a
  .rfl
 .rfl
theorem elems_of{es:List (Int×Value)}(h:∀ e∈es,∃ k u,e=(hashStr w k,Value.str k u)):ElemsOf (PySem.strKind prog w) es:=by
 intro e a;obtain⟨k,u,rfl⟩:=h e a;show⟨⟨k,strKind_is _ _ _ _,rfl⟩,rfl⟩
theorem qeE{h:Heap}{es es':Array (Int×Value)}{ep:Nat}{t t':SetTable}(b:h.get? a=some { cls:=.type "set",dict:=none,data:=.set es ep t }):(h.update a (Obj.putSet es' t')).get? a=some { cls:=.type "set",dict:=none,data:=.set es' (ep+1) t' }:=by
 have:=Y3 (Obj.putSet es' t') b rfl;show this
theorem add_txt{ss:LS}{k:Str}{u:Tok}{Q:Bool->Shared->Prop}(hS:TxS w s.heap a ss)(hk:k∉ss)(hb:ss.length+1<scanBound)
  (h:∀ h',Heap.SameBut a s.heap h'->TxS w h' a (ss++[k])->Q true { s with heap:=h' }) :
  wpAny (model prog w) A (setAddHashed a (.str k u) (hashStr w k)) Q E s:=by
 obtain⟨es,ep,t,P,v,hp,hf,aa,hsz⟩:=hS;have l:=elems_of (prog:=prog) v;unfold setAddHashed setAddHashedIn;show Yl (yr (wpAny_setState_of P rfl hf ?_));dsimp only;rw[byScan_of (knd:=PySem.strKind prog w) rfl hsz l];simp only[↓reduceIte];unfold setAddByScan;show yr ?_;show yr (kM ?_);show yr (wpAny_setScan_of (knd:=PySem.strKind prog w) (k:=k) (strKind_is _ _ _ _) P rfl hf l ?_)
 have Y:es.toList.findIdx? (fun e=>(PySem.strKind prog w).is k e.2)=none:=by
  rw[List.findIdx?_eq_none_iff];intro e F;obtain⟨k',u',rfl⟩:=v e F;have X:k≠k':=fun T=>hk (hp.mem_iff.mp (yQ.mpr ⟨_,F,T.symm⟩))
  cases hc:(PySem.strKind prog w).is k (Value.str k' u') with
  | false=>rfl
  | true=>show absurd ((PySem.strKind prog w).inj _ _ _ hc (strKind_is _ _ _ _)) X
 rw[Y];dsimp only;have d:=layNew_perm t es (hashStr w k) (.str k u);have f:=layNew_fits t es (hashStr w k) (.str k u);have J:=@lay_plain t es (hashStr w k) (.str k u);generalize layNew t es (hashStr w k) (.str k u)=L at d f J ⊢;obtain⟨c,t1,O,Z⟩:=L;dsimp only at d f J ⊢;rw[Array.toList_push] at d
 have I:∀(b:Bool) {j:Shared} {S:Unit->Shared->Prop},S () j->wpAny (model prog w) A (match b with | true=>rule "set.scan.the-table-gave-way" | false=>pure ()) S E j:=
  fun b j S hq=>by cases b<;>first | show yv hq | show kM hq
 have m:∀ e∈c.toList,∃ k u,e=(hashStr w k,Value.str k u):=fun e F=>by
  rcases yH.mp (d.mem_iff.mp F) with h1 | h1
  .show v e h1
  .show⟨k,u,yx.mp h1⟩
 have B:(c.toList.map fun e=>strOf e.2).Perm (ss++[k]):=by
  show(d.map _).trans ?_;rw[yE];show hp.append_right _
 have D:c.size<scanBound:=by rw[TxS.len (h:=s.heap) B,yz];show hb
 have N:=fits_of_scanBound D;show yr (I _ ?_)
 have p:∀ g:SetTable,g.fits c.size=true->g.plain=false->wpAny (model prog w) A (do
    storeSet a c g
    if (!O&&g.tooFull)=true then do
      (match (relayAll g c (SetTable.grown c.size)).2.2 with | true=>rule "set.scan.the-table-gave-way" | false=>pure ())
      storeSet a (relayAll g c (SetTable.grown c.size)).1 (relayAll g c (SetTable.grown c.size)).2.1
      pure (some true)
     else pure (some true)) (fun r s'=>∃ h',r=some true/\s'={ s with heap:=h' }/\Heap.SameBut a s.heap h'/\TxS w h' a (ss++[k])) E s:=by
  intro g W K;show yr (wpAny_storeSet_of P rfl ?_ N);have z:=qeE (es':=c) (t':=g) P;have o:=xo s.heap a (Obj.putSet c g);split
  .have i:=relayAll_perm g c (SetTable.grown c.size);have y:=relayAll_fits g c (SetTable.grown c.size);have C:=relay_plain (es:=c) (n:=SetTable.grown c.size) K;generalize relayAll g c (SetTable.grown c.size)=R at i y C ⊢;obtain⟨G,t3,g2⟩:=R;dsimp only at i y C ⊢;have M:G.size=c.size:=by rw[<- Yx,i.length_eq,Yx]
   show yr (I _ ?_);show yr (wpAny_storeSet_of z rfl ?_ (by rw[M];show N));show yv ⟨_,rfl,rfl,o.trans (xo _ a _),G,_,t3,qeE z,fun e F=>m e (i.mem_iff.mp F),(i.map _).trans B,y,.inr C,by rw[M];show D⟩
  .show yv ⟨_,rfl,rfl,o,c,_,g,z,m,B,W,.inr K,D⟩
 have H:∀{r:Option Bool} {s':Shared},(∃ h',r=some true/\s'={ s with heap:=h' }/\Heap.SameBut a s.heap h'/\TxS w h' a (ss++[k]))->Q true s'/\r=some true:=fun⟨h',e,T,U,hT⟩=>by
  subst T;show⟨h h' U hT,e⟩
 split
 .show yr ?_;rw[hashByValue_scannable 8 rfl];show yv ?_;show Ym (p _ ?_ ?_) (fun r s' x=>?_) fun _ _ e=>e
  .show SetTable.fits_plain_off f
  .rfl
  .obtain⟨q,rfl⟩:=H x;show yv q
 .rename_i hpf
  show yr (yv ?_);simp only[↓reduceIte];show Ym (p _ f (by simpa using hpf)) (fun r s' x=>?_) fun _ _ e=>e;obtain⟨q,rfl⟩:=H x;show yv q
theorem loop_txt{I:Addr}{O z:LI}{G:Array GenState->Array GenState->Prop}{P:Nat->Value->Prop}{St:Nat->Shared->Prop}{R:Result->Shared->Prop}{ks:LS}(W:WalksS prog w A.in1 I O z G ks.length P St)(l:a∉O)
  (y:∀ i v,P i v->∃(k:Str) (t:Tok),ks[i]?=some k/\v=.str k t) (Z:ks.Nodup) (hb:ks.length+1<scanBound) :
  ∀(n i:Nat) (s:Shared),ks.length-i=n->i<=ks.length->St i s->TxS w s.heap a (ks.take i) ->
   (∀ s',Moved (a::z) G s s'->TxS w s'.heap a ks->R (.ok (.ret .none)) s') ->
   codeAny (model prog w) A (.builtin "set.update.loop" ⟨[.ref a,.ref I],[]⟩) R s:=by
 have m:a∉z:=fun h=>l (W.sub _ h);have f:∀ b∈z,b∈a::z:=fun b hb=>yu _ hb;intro n
 induction n with
 | zero =>
  intro i s Y U d B C;have e:ks.take i=ks:=YU (by lk);rw[e] at B;have J:i=ks.length:=by lk
  rw[J] at d;show kQ PyProof.Rows.F.entry_set_update_loop ?_;rw[Around.under_plainId xp _];show wpAny _ A.in1 (pyNext (.ref I)>>=_) _ _ s;show yr (W.done s _ _ d fun s' q=>?_);show wpAny _ A.in1 (ret Value.none) _ _ s';show yv (C s' (q.mono f) (B.keep fun o e=>q.heap a _ m e))
 | succ n ih =>
  intro i s Y U d B C;have c:i<ks.length:=by lk
  show kQ PyProof.Rows.F.entry_set_update_loop ?_;rw[Around.under_plainId xp _];show wpAny _ A.in1 (pyNext (.ref I)>>=_) _ _ s;show yr (W.item i s _ _ c d fun v s' T x q=>?_);obtain⟨k,t,N,rfl⟩:=y i v T;have p:ks[i]=k:=by rw[yb c] at N;show ym N
  have D:TxS w s'.heap a (ks.take i):=B.keep fun o e=>q.heap a _ m e;show wpAny _ A.in1 (holding [Value.str k t] (setAdd a (.str k t))>>=_) _ _ s';show yr (Yl ?_);unfold setAdd;show Yl ?_;show yr ((PySem.strKind prog w).pyHash (k:=k) (strKind_is _ _ _ _) ?_);show add_txt (s:={ s' with toks:=s'.toks+1 }) D (fun L=>?_) (by rw[yL];lk) fun h' u E=>?_
  .obtain⟨j,X,S⟩:=List.mem_take_iff_getElem.mp L;have K:j<i:=yj X (Nat.min_le_left _ _);show(YZ.mp Z) j i (by lk) c K (S.trans p.symm)
  .have H:TxS w h' a (ks.take (i+1)):=by rw[List.take_succ_eq_append_getElem c,p];show E
   show yv ⟨plainId_quiet xp _,ih (i+1) _ (by lk) c (W.frame _ s' _ _ x (xF _) fun b hb o e=>?_) H fun M r g=>?_⟩
   .rw [u.2 b (fun h:b=a=>l (by rw[<- h];show hb))];show e
   .show C M (Moved.trans W.gtrans ((q.mono f).then_heap (xF _) fun b o hb e=>?_) r) g;rw[u.2 b (fun h:b=a=>hb (by rw[h];show yy))];show e
theorem fresh_txt{h:Heap}{b:Bool}(e:h.get? a=some { cls:=.type "set",dict:=none,data:=.set #[] 0 (.fresh 0 0 b) }):TxS w h a []:=
 ⟨#[],0,_,e,fun e c=>by simp at c,.refl _,rfl,.inl rfl,by decide⟩
theorem set_txt{l:Addr}{f:Array Value}{ks:LS}{Q:Value->Shared->Prop}(hh:A.handled=none)(hl:s.heap.IsList l f)(z:f.size=ks.length)
  (G:∀(i:Nat) (v:Value),f[i]?=some v->∃(k:Str) (t:Tok),ks[i]?=some k/\v=.str k t) (hn:ks.Nodup) (hb:ks.length+1<scanBound)
  (h:∀(h':Heap) (tk:Nat),TxS w h' s.heap.objs.size ks->(∀ b o,s.heap.get? b=some o->h'.get? b=some o)->Q (.ref s.heap.objs.size) { s with heap:=h',toks:=tk }) :
  wpAny (model prog w) A (call (.type "set") [.ref l]) Q E s:=by
 obtain⟨c,tl,Y⟩:=F.called_set.mro;have O:=F.called_set.made;have ac:=F.called_set.sub;show xj (kP ?_);show wpAny _ _ (callAny (.type "set") _) _ _ _;show yv ⟨kh _ (by room),kQ F.entry_type_call ?_⟩;rw[Around.under_plain (weight_type_call_type "set" [.ref l] []) rfl];have h1:=F.called_set.notType;have h2:=F.called_set.canCreate;have af:=F.typeCall_set_1 (.ref l)
 repeat (any_goals (first | assumption | wp_step))
 show Y6 (code_set_new_1 (.ref l) (E:=E) (Q₁:=fun H g=>∃ d:Bool,H=.ref s.heap.objs.size/\g={ s with heap:=s.heap.push { cls:=.type "set",dict:=none,data:=.set #[] 0 (.fresh 0 0 d) } }) fun d=>⟨d,rfl,rfl⟩) fun r g D=>?_
 cases r with
 | error e=>show D
 | ok fl =>
  cases fl with
  | next=>show D.elim
  | brk=>show D.elim
  | cont=>show D.elim
  | ret H =>
   obtain⟨d,rfl,rfl⟩:=D;generalize p:({ cls:=.type "set",dict:=none,data:=.set #[] 0 (.fresh 0 0 d) }:Obj)=o0;have X:(s.heap.push o0).get? s.heap.objs.size=some o0:=yK _ (by rw[<- p];rfl);have hT:Shared.TypeIs { s with heap:=s.heap.push o0 } (.ref s.heap.objs.size) "set":=⟨_,X,by rw[<- p]⟩;have ag:=F.called_set.init.lookup;have ae:=F.called_set.init.bind (.ref s.heap.objs.size)
   repeat (any_goals (first | assumption | wp_step))
   show Y6 (Y7 (R:=wants (fun r j=>r=.none/\∃ h' tk,j={ s with heap:=h',toks:=tk }/\TxS w h' s.heap.objs.size ks/\(∀ b o,s.heap.get? b=some o->h'.get? b=some o)) E) F.called_set.init.plain F.entry_set_init (check_set_init_1 hT ?_)) fun I j a=>?_
   .obtain⟨ol,C,q,nl,u⟩:=id hl;obtain⟨ad,S,P,K⟩:=ol;simp only at q u;subst q;subst u;have Z:=yt o0 C;have ab:=F.sub_list_set;have aa:=F.sub_list_frozenset;have ah:(Value.type "list"==Value.type "dict")=false:=by decide
    have x:(s.heap.push o0).IsList l f:=hl.push _;subst p;unfold Builtin.«set.__init__» noKeywords Builtin.Frozenset.updateFrom;generalize L:pyIter=PI
    wp_walk
    subst L;show Xy x ?_;show yr (wpAny_runValue ?_);have y:l<s.heap.objs.size:=yF C;have M:A.in1.in1.in1.handled=none:=by simp[hh]
    have W:=(Walks.list (prog:=prog) (w:=w) M (s.heap.push { cls:=.type "set",dict:=none,data:=.set #[] 0 (.fresh 0 0 d) }).objs.size l (by rw[YL];show yN (Xx y)) f).toS;rw[z] at W;show loop_txt W (by rw[YL];simp only[yA,yS,YN,kY];show⟨yN (xI _),Xa y⟩) G hn hb (ks.length-0) 0 _ rfl (yU _) ⟨⟨_,yK _ rfl,rfl,rfl⟩,(x.push _)⟩ (fresh_txt (yt _ X)) ?_;intro s' J m;obtain⟨h',g',d',U,T⟩:=s';have eg:g'=s.gens:=J.gens;have ed:d'=s.drawn:=J.drawn;have eo:T=s.os:=J.os;subst eg;subst ed;subst eo;show wpAny _ _ _ _ _ _;show yv ?_;show wpAny _ _ (ret Value.none) _ _ _;show yv ⟨rfl,h',U,rfl,m,fun b o e=>J.heap b o (fun n=>?_) (yt _ (yt _ e))⟩;have B:=yF e;rw[YL] at n;simp only[yA,yS,YN] at n;rcases n with rfl | rfl
    .show absurd B (Yd _)
    .show absurd (Nat.lt_of_succ_lt B) (Yd _)
   .cases I with
    | error e=>show a
    | ok fl₂ =>
     cases fl₂ with
     | next=>show a.elim
     | brk=>show a.elim
     | cont=>show a.elim
     | ret r =>
      obtain⟨rfl,h',tk,rfl,m,N⟩:=a
      repeat (any_goals (first | assumption | wp_step))
      show h _ _ m N
end
section
variable{prog:Program}{w:World}{A:Around}{E:Value->Shared->Prop}{s:Shared}{a:Addr}
end
section
variable{prog:Program}{w:World}{A:Around}{E:Value->Shared->Prop}{s:Shared}{a I T:Addr}{es:Array (Int×Value)}{ep i:Nat}{t:SetTable}{f:Value}{Q:Option Value->Shared->Prop}
end
section
variable{prog:Program}{w:World}{A:Around}{E:Value->Shared->Prop}{s:Shared}{a I T:Addr}{es:Array (Int×Value)}{ep i:Nat}{t:SetTable}{f:Value}{Q:Option Value->Shared->Prop}{js:LN}
end
section
variable{prog:Program}{w:World}{A:Around}{E:Value->Shared->Prop}{s:Shared}{a I T:Addr}{es:Array (Int×Value)}{ep i:Nat}{t:SetTable}
end
section
variable{prog:Program}{w:World}{A:Around}{E:Value->Shared->Prop}{s:Shared}{a:Addr}{ss:LS}{w₁:World}
end
section
variable{prog:Program}{w:World}{A:Around}{E:Value->Shared->Prop}{s:Shared}{a:Addr}{ss:LS}{w₁:World}
end
section
variable{X:Cx}{K:yg}
theorem qdS:∀{a:LS} {us:List Value},StrsAre us a->∀(i:Nat) (v:Value),us[i]?=some v->∃(k:Str) (t:Tok),a[i]?=some k/\v=.str k t
 | _,_,.cons y tk r,0,v,h=>⟨y,tk,rfl,(ym h).symm⟩
 | _,_,.cons y tk r,i+1,v,h=>qdS r i v h
noncomputable def qdT(a:Addr)(ss:LS):HO:=.ext fun h=>∃ w,TxS w h a ss
def rSetS(K:yg):List V->Hp->VK->Prop:=fun xs H Q=>∃(p:Addr) (ss:LS),xs=[.ref p]/\SqL K H p (ss.map V.str)/\ss.Nodup/\ss.length<=100/\∀ l:Addr,H l=none->Q (.ref l) (upd H l (qdT l ss))
theorem qeF(f:X.K=K)(hc:X.calm=true):jX X (.type "set") (rSetS K):=by
 subst f;intro c s A H xs us Q I r h;obtain⟨p,ss,rfl,m,l,h1,q⟩:=h;obtain⟨u,rfl,t⟩:=qaa r;cases t;obtain⟨a,d,pl,z⟩:=I.list m;have n:=qcs d;have hl:a.length=ss.length:=by rw[<- d.length,ya]
 show set_txt (ks:=ss) (I.ok.hd hc) pl.isList (by simpa using hl) (fun i v e=>qdS n i v (by simpa using e)) l (by unfold scanBound;lk) fun h' tk b j=>?_;have g:=I.hok.fresh (yh s.heap.objs.size);show⟨.ref _,_,I.laid (o:=qdT s.heap.objs.size ss) (t':=tk) j (yh _) ⟨⟨_,b⟩,?_,fun h1 y x e=>?_⟩,rfl,q _ g⟩
 .obtain⟨_,_,_,e,_⟩:=b;show⟨_,e⟩
 .obtain⟨w,x⟩:=x;show⟨w,x.keep e⟩
def rLenT:List V->Hp->VK->Prop:=fun xs H Q=>∃(p:Addr) (ss:LS),xs=[.ref p]/\H p=some (qdT p ss)/\Q (.int (ss.length:Int)) H
theorem qeG:jX X (.builtin "len") rLenT:=by
 intro b s g H xs us Q I r h;obtain⟨p,ss,rfl,e,q⟩:=h;obtain⟨u,rfl,f⟩:=qaa r;cases f;obtain⟨⟨w,es,ep,t,d,_,a,c,_,hb⟩,_,_⟩:=I.hok p _ e;show call_len_set d ⟨rfl,rfl,rfl⟩ rfl c (by unfold scanBound at hb;lk) ?_;rw[TxS.len (h:=s.heap) a];show⟨.int _,H,I.tok _,⟨_,rfl⟩,q⟩
end
end L2
namespace L2
open PySem PySem.Spec PyProof.Rows PySem.W
variable{A:Around}{H H0:Hp}{P:Program}{a c f:Addr}{body:Expr}{e:Nat}{h:Heap}{params:Arguments}{q:Str}{scope:Scope}{w:World}{ws:List Value}{xs:List V}{zk:LQ}
noncomputable def LsO(a:Addr)(xs:Array Value)(e:Nat):HO:=.ext fun h=>h.get? a=some (seqObj "list" xs e)
theorem LsO.ok{xs:Array Value}(q:h.get? a=some (seqObj "list" xs e)):ObjOk P w H h a (LsO a xs e):=
 ⟨q,⟨_,q⟩,fun _ _ h1 k=>k _ h1⟩
theorem LsO.at{xs:Array Value}(ok:HOk P w H h)(q:H a=some (LsO a xs e)):h.get? a=some (seqObj "list" xs e):=(ok a _ q).1
section
variable{M:Model}{A:Around}{E:Value->Shared->Prop}{s:Shared}{a kl:Addr}{ws:List Value}{zk:LQ}{kx:Array Value}{e e1:Nat}{P:PySem.Fin->Shared->Prop}
theorem qdU{sq:SortSt}(q:s.heap.get? kl=some (seqObj "list" kx e))(w:s.heap.get? a=some (seqObj "list" #[] e1))(g:kl≠a)
  (n:IntsAre kx.toList zk) (u:zk.length=ws.length) (hw:ws.length<64) (o:(arrOf sq).Perm (kx.zip ws.toArray)) (v:SortedTo (arrOf sq) (arrOf sq).size) (f:failedOf sq=none)
  (h:∀ i h' out c t,Heap.SameBut kl s.heap i->i.get? kl=some (seqObj "list" #[] t)->Heap.SameBut a i h'->h'.get? a=some (seqObj "list" out c)->KskOut false zk ws out.toList->P (.done (.ret .none)) { s with heap:=h' }) :
  wpAny M A (ksk_tail a false e1 (.ref kl) sq) P E s:=by
 have p:kx.size=ws.length:=by
  have h1:=n.length;rw[Yx] at h1;lk
 have j:((arrOf sq).map (·.2)).size=ws.length:=by rw[Array.size_map,o.size_eq,Array.size_zip,p,yw,Nat.min_self]
 have r:=xo s.heap kl (Obj.mapSeq fun _=>(#[]:Array Value));have m:=X3 q fun _=>(#[]:Array Value);have d:(s.heap.update kl (Obj.mapSeq fun _=>(#[]:Array Value))).get? a=some (seqObj "list" #[] e1):=(r.2 a g.symm).trans w;have x:=xo (s.heap.update kl (Obj.mapSeq fun _=>(#[]:Array Value))) a (Obj.mapSeq fun _=>(arrOf sq).map (·.2));have l:=X3 d fun _=>(arrOf sq).map (·.2);unfold ksk_tail
 try dsimp only
 show yr (kA q rfl ?_ (by rw[p,Ys];lk) (yU _));show yr (wpAny_letGo ?_);show yr (seqEpoch_at d rfl ?_);show yr (kA d rfl ?_ (yU _) (yi (Xb j) (by rw[Ys];lk)));rw[f];simp only[bne_self_eq_false,Xn,ke];have z:=ksk_out (b:=false) n o v;show yv (h _ _ _ _ _ r m x l z)
theorem sk_end{prog:Program}(t:s.heap.get? kl=some (seqObj "list" kx e))(r:s.heap.get? a=some (seqObj "list" #[] e1))(m:kl≠a)
  (l:IntsAre kx.toList zk) (g:zk.length=ws.length) (hw:ws.length<64)
  (h:∀ o h' out c y,Heap.SameBut kl s.heap o->o.get? kl=some (seqObj "list" #[] y)->Heap.SameBut a o h'->h'.get? a=some (seqObj "list" out c)->KskOut false zk ws out.toList->P (.done (.ret .none)) { s with heap:=h' }) :
  wpAny (model prog w) A (ksk_end a false ws.toArray e1 (.ref kl) kx) P E s:=by
 have q:kx.size=ws.length:=by
  have h1:=l.length;rw[Yx] at h1;lk
 have d:(kx.zip ws.toArray).size=ws.length:=by rw[Array.size_zip,q,yw,Nat.min_self]
 unfold ksk_end
 try dsimp only
 rw[yB Yh];by_cases f:ws.toArray.size<2
 .rw [yG f,yG f];show yr (yv ?_);rw[StateT.run_pure];show yr (yv ?_);try dsimp only;show qdU (sq:=SortSt.mk' general' (kx.zip ws.toArray) #[] 7 none) t r m l g hw (Array.Perm.refl _) ?_ rfl h;intro i j B C;have n:j<(kx.zip ws.toArray).size:=C;rw[d] at n;rw[yw] at f;have:i=j:=by lk
  subst this;show Int.le_refl _
 .rw [yB f,yB f];rw[yw] at f;rw[ksk_kind l (by rw[q];lk)];show yr (yv ?_);show yr (Ym (wpS_sortRuns (a₀:=kx.zip ws.toArray) (st:=SortSt.mk' oneType' (kx.zip ws.toArray) #[] 7 none)
   (Q:=fun _ b=>(arrOf b).Perm (kx.zip ws.toArray)/\failedOf b=none/\SortedTo (arrOf b) (kx.zip ws.toArray).size)
   (ksk_intKeys l) ⟨Array.Perm.refl _,rfl,rfl,rfl⟩ (by rw[d];lk) (by rw[d];show hw) fun b u v x=>⟨u,v,x⟩) ?_ fun _ _ e=>e)
  rintro⟨⟨⟩,b⟩ s' ⟨rfl,p,z,D⟩
  try dsimp only
  show qdU t r m l g hw p (by rw[p.size_eq];show D) z h
end
def KSo(zk:LQ)(xs a:List V):Prop:=∃ ps:List (Int×V),ps.Perm (zk.zip xs)/\a=ps.map Prod.snd/\ps.Pairwise fun p q=>p.1<=q.1
theorem qaZ{f g:Type}{R:f->g->Prop}{b e:List g}(p:b.Perm e):∀{a:List f},Paired R a b->∃ c,c.Perm a/\Paired R c e:=by
 induction p with
 | nil=>show fun{a} h=>⟨a,.refl _,h⟩
 | cons x _ ih =>
  intro a h
  cases h with
  | cons r t=>obtain⟨c,j,t'⟩:=ih t;show⟨_,j.cons _,.cons r t'⟩
 | swap x y l =>
  intro a h
  cases h with
  | cons r t =>
   cases t with
   | cons r2 d=>show⟨_,.swap _ _ _,.cons r2 (.cons r d)⟩
 | trans _ _ i1 i2 =>
  intro a h;obtain⟨q,m,o⟩:=i1 h;obtain⟨i,n,d⟩:=i2 o;show⟨i,n.trans m,d⟩
def qf8(p:Int×V)(q:Int×Value):Prop:=p.1=q.1/\RelV p.2 q.2
theorem qc2:∀{zk:LQ} {xs:List V} {ws:List Value},Vals xs ws->Paired qf8 (zk.zip xs) (zk.zip ws)
 | [],_,_,_=>.nil
 | _::_,_,_,.nil=>.nil
 | _::_,_,_,.cons r t=>.cons ⟨rfl,r⟩ (qc2 t)
theorem qbu:∀{ps:List (Int×V)} {a:List (Int×Value)},Paired qf8 ps a->Vals (ps.map Prod.snd) (a.map Prod.snd)/\ps.map Prod.fst=a.map Prod.fst
 | _,_,.nil=>⟨.nil,rfl⟩
 | _,_,.cons r t=>⟨.cons r.2 (qbu t).1,by rw[yJ,yJ,(qbu t).2,r.1]⟩
theorem kso_of{out:List Value}(r:Vals xs ws)(h:KskOut false zk ws out):∃ a,Vals a out/\KSo zk xs a:=by
 obtain⟨ps,b,rfl,c⟩:=h;obtain⟨f,d,e⟩:=qaZ b.symm (qc2 (zk:=zk) r);obtain⟨g,i⟩:=qbu e;show⟨_,g,f,d,rfl,?_⟩;have h1:(ps.map Prod.fst).Pairwise (·<=·):=YV.mpr (c.imp fun h=>by simpa using h);rw[<- i] at h1;show YV.mp h1
section
variable{X:Cx}{pins:List (Addr×Obj)}{σ:St}{H:Hp}{s:Shared}{E:Value->Shared->Prop}
theorem Same.put{x:Addr}{o:HO}(h:L2.Same H0 H)(n:H0 x=none):L2.Same H0 (upd H x o):=fun c u e=>by
 rw[qh (fun z=>by rw[z,n] at e;cases e)];show h c u e
theorem sk_rest{P:PySem.Fin->Shared->Prop}{f:Value}{d:Addr}{U:Nat}(I:Inv X pins σ H s)(s0:L2.Same H0 H)(ac:H0 a=none)(M:H0 d=none)(p:d≠a)
  (ha:H a=some (LsO a #[] U)) (aa:H d=some (LsO d #[] 0)) (rv:Vals xs ws) (G:zk.length=ws.length) (hw:ws.length<64)
  (O:∀(i:Nat) (v:V) (u:Value) (k:Int) (H':Hp) (s':Shared),xs[i]?=some v->zk[i]?=some k->RelV v u->L2.Same H0 H'->Inv X pins σ H' s'->wpAny (model X.prog X.w) A (call f [u]) (EP X pins σ fun r H2=>r=.int k/\L2.Same H' H2) (fun _ _=>False) s')
  (h:∀ z H' s',L2.Same H0 H'->Inv X pins σ H' s'->H' a=some (.lst z)->KSo zk xs z->P (.done (.ret .none)) s') :
  wpAny (model X.prog X.w) A (ksk_rest a f false ws.toArray U (.ref d)) P E s:=by
 unfold ksk_rest;show yr (kM ?_);first
  | rw[List.forIn_toArray]
  | (rw[<- Array.forIn_toList];simp only[X7])
  | rw[<- Array.forIn_toList]
 show yr (ksk_fold (fun i s'=>∃ H' l e,Inv X pins σ H' s'/\L2.Same H0 H'/\H' a=some (LsO a #[] U)/\H' d=some (LsO d l e)/\IntsAre l.toList (zk.take i)) ws 0 s
  ⟨H,#[],0,I,s0,ha,aa,by simpa using IntsAre.nil⟩ ?step ?done)
 case step =>
  rintro j x s' hx ⟨H',l,e,B,T,m,g,t⟩;simp only[xq] at t ⊢;have hj:j<ws.length:=(yc.mp hx).1;obtain⟨k,J⟩:∃ k,zk[j]?=some k:=⟨_,yb (by lk)⟩
  have ag:l.size<=ws.length:=by
   have h1:=t.length;rw[Yx,yL] at h1;lk
  obtain⟨v,hv⟩:∃ v,xs[j]?=some v:=⟨_,yb (by rw[rv.length];show hj)⟩;obtain⟨x',K,ad⟩:=Vals.get rv hv;rw[hx] at K;cases K;show yr (ky (Ym (O j v x k H' s' hv J ad T B) (fun u N he=>?_) fun _ _ hF=>hF.elim));obtain⟨r,H2,R,ru,rfl,S⟩:=he;obtain⟨y,rfl⟩:=ru
  try dsimp only
  have L:=LsO.at R.hok (S _ _ g);have s1:=xo N.heap d (Obj.mapSeq (·.push (.int k y)));have F:=X3 L (·.push (.int k y));have Y:zk.take (j+1)=zk.take j++[k]:=by rw[yR,J];simp
  have W:(l.push (Value.int k y)).toList=l.toList++[Value.int k y]:=by simp
  show yr (kA L rfl ?_ (by rw[Ys];lk) (yi (Xb (Array.size_push ..)) (by rw[Ys];lk)));show yv ⟨rfl,_,l.push (.int k y),_,R.write (t':=N.toks) (e:=d) (x:=d) (o:=LsO d (l.push (.int k y)) _) (by rw[S _ _ g];trivial) (.inl rfl) (fun b u n q=>(s1.2 b n).trans q) ⟨_,F⟩ (LsO.ok F),(T.trans S).put M,by rw[qh (Yq p)];show S _ _ m,qc,by rw[W,Y];show ksk_snoc t⟩
 case done =>
  rintro s' ⟨H',l,e,B,T,m,g,t⟩
  have ab:IntsAre l.toList zk:=by
   have Z:zk.take (0+ws.length)=zk:=YU (by lk);rw[Z] at t;show t
  have L:=LsO.at B.hok g;have na:=LsO.at B.hok m
  try dsimp only
  show yr (listItems_at L rfl ?_);show sk_end L na p ab G hw fun hm h' out c c' ae D af C ko=>?_;obtain⟨z,ry,ks⟩:=kso_of rv ko;have I1:Inv X pins σ (upd H' d (LsO d #[] c')) { s' with heap:=hm }:=B.write (t':=s'.toks) (e:=d) (x:=d) (by rw[g];trivial) (.inl rfl) (fun b u n q=>(ae.2 b n).trans q) ⟨_,D⟩ (LsO.ok D)
  have hl:z.length<=sizeLine:=by
   obtain⟨ps,p1,rfl,_⟩:=ks;rw[ya,p1.length_eq,List.length_zip,G,Ys];lk
  have R:Inv X pins σ (upd (upd H' d (LsO d #[] c')) a (.lst z)) { s' with heap:=h' }:=Inv.write (s:={ s' with heap:=hm }) (t':=s'.toks) (h':=h') (e:=a) (x:=a) I1 (by rw[qh (Yq p),m];trivial) (.inl rfl) (fun b u n q=>(af.2 b n).trans q) ⟨_,C⟩ ⟨hl,out.toList,c,ry,by rw[C]⟩;show h z _ _ ((T.put M).put ac) R qc ks
theorem sk_sorted{l:Addr}{Q:VK}(I:Inv X pins σ H s)(hl:SqL X.K H l xs)(M:zk.length=xs.length)(hw:xs.length<64)
  (C:∀(i:Nat) (v:V) (u:Value) (k:Int) (H':Hp) (s':Shared),xs[i]?=some v->zk[i]?=some k->RelV v u->L2.Same H H'->Inv X pins σ H' s'->wpAny (model X.prog X.w) X.A.in1.in1 (call (.ref f) [u]) (EP X pins σ fun r W=>r=.int k/\L2.Same H' W) (fun _ _=>False) s')
  (q:∀ D J H',L2.Same H H'->H D=none->H' D=some (.lst J)->KSo zk xs J->Q (.ref D) H') :
  wpAny (model X.prog X.w) X.A (call (.builtin "sorted") [.ref l] [(Str.ofString "key",.ref f)]) (EP X pins σ Q) E s:=by
 obtain⟨ws,R,pl,aa⟩:=I.list hl;have P:ws.length<64:=by rw[<- R.length];show hw
 have O:=pl.isList;show call_function_entry_kw kind_sorted plain_sorted entry_sorted (ksk_s1 _ _) ?_;unfold Builtin.«sorted»;show yr (m:=checkCount "sorted" 1 1 _) (yv ?_);show yr (collect_list O ?_ (by rw[Ys];lk));show yr (wpAny_newList ?_ (by rw[Ys];lk))
 have G:((s.heap.push (seqObj "list" #[] 0)).update s.heap.objs.size (Obj.mapSeq (·++ws.toArray))).objs.size=s.heap.objs.size+1:=by
  rw[Heap.size_update,size_push']
 show wpAny _ _ _ _ _ { s with heap:=((s.heap.push (seqObj "list" #[] 0)).update s.heap.objs.size (Obj.mapSeq (·++ws.toArray))).push (seqObj "list" ws.toArray 0) };rw[G];generalize g:((s.heap.push (seqObj "list" #[] 0)).update s.heap.objs.size (Obj.mapSeq (·++ws.toArray))).push (seqObj "list" ws.toArray 0)=h1
 have a:h1.get? (s.heap.objs.size+1)=some (seqObj "list" ws.toArray 0):=by
  rw[<- g,<- G];show yK _ rfl
 have keep:∀ b o,s.heap.get? b=some o->h1.get? b=some o:=fun b o q=>by
  have d:b<s.heap.objs.size:=yF q;rw[<- g,Heap.get?_push_ne _ _ _ (by rw[G];show yN (Xx d)),X6 _ _ _ _ (yN d),Heap.get?_push_ne _ _ _ (yN d)];show q
 have y:h1.objs.size=s.heap.objs.size+2:=by rw[<- g,size_push',G]
 generalize L:s.heap.objs.size+1=D at a y;have e:H D=none:=I.hok.fresh (by lk);show yr (Yl (wpAny_call_entry_kw slot_list_sort ⟨_,a,rfl⟩ entry_list_sort ?body (ksk_l1 _ _)))
 case body =>
  show wpAny (model X.prog X.w) X.A.in1.in1 (Builtin.«list.sort» ⟨[.ref D],_⟩) _ _ _;rw[ksk_t1];have U:=xo h1 D (Obj.mapSeq fun _=>(#[]:Array Value));obtain⟨F,j⟩:∃ F,(h1.update D (Obj.mapSeq fun _=>(#[]:Array Value))).get? D=some (seqObj "list" #[] F):=⟨_,X3 a fun _=>(#[]:Array Value)⟩;unfold ksk_tree;show yr (listItems_at a rfl ?_);show yr (kA a rfl ?_ (by rw[yw,Ys];lk) (yU _));have B:(h1.update D (Obj.mapSeq fun _=>(#[]:Array Value))).objs.size=h1.objs.size:=Heap.size_update ..;generalize h1.update D (Obj.mapSeq fun _=>(#[]:Array Value))=c at U j B;show yr (seqEpoch_at j rfl ?_);show yr (wpAny_newTuple ?_ (by show ws.length<=_;rw[Ys];lk));show yr (wpAny_newList ?_ (yU _));show Yl ?_;have N:(c.push (seqObj "tuple" ws.toArray 0)).objs.size=s.heap.objs.size+3:=by rw[size_push',B,y]
  show wpAny _ _ (ksk_rest D (.ref f) false ws.toArray _ (.ref (c.push (seqObj "tuple" ws.toArray 0)).objs.size)) _ _ { s with heap:=(c.push (seqObj "tuple" ws.toArray 0)).push (seqObj "list" #[] 0) }
  have T:∀ b o,s.heap.get? b=some o->((c.push (seqObj "tuple" ws.toArray 0)).push (seqObj "list" #[] 0)).get? b=some o:=fun b o q =>
   yt _ (yt _ ((U.2 b (yN (kI (yF q) (L ▸ xI _)))).trans (keep b o q)))
  have p:=yt (seqObj "list" #[] 0) (yt (seqObj "tuple" ws.toArray 0) j);have h:((c.push (seqObj "tuple" ws.toArray 0)).push (seqObj "list" #[] 0)).get? (c.push (seqObj "tuple" ws.toArray 0)).objs.size=some (seqObj "list" #[] 0):=yK _ rfl;rw[N] at h ⊢;generalize (c.push (seqObj "tuple" ws.toArray 0)).push (seqObj "list" #[] 0)=h4 at T p h;have x:H (s.heap.objs.size+3)=none:=I.hok.fresh (Nat.le_add_right _ _);have t:s.heap.objs.size+3≠D:=fun z=>by rw[<- L] at z;lk
  have S:L2.Same H (upd (upd H D (LsO D #[] F)) (s.heap.objs.size+3) (LsO (s.heap.objs.size+3) #[] 0)):=((Same.refl H).put e).put x
  have Z:Inv X pins σ (upd (upd H D (LsO D #[] F)) (s.heap.objs.size+3) (LsO (s.heap.objs.size+3) #[] 0)) { s with heap:=h4 }:=I.laidM (t':=s.toks) T (fun b hb=>by rw[qh (yN (yj hb (Nat.le_add_right _ _))),qh (yN (L ▸ Xx hb))]) fun b u hb n=>by
   by_cases z:b=s.heap.objs.size+3
   .subst z;rw[qc] at n;cases n;show LsO.ok h
   .rw [qh z] at n;by_cases z:b=D
    .subst z;rw[qc] at n;cases n;show LsO.ok p
    .rw [qh z,I.hok.fresh hb] at n;cases n
  show sk_rest Z S e x t (by rw[qh (Yq t)];show qc) qc R (by rw[M];show R.length) P C fun J H' s' sH Y ha ks=>⟨_,rfl,?_⟩;show yv ⟨_,rfl,.ref D,H',Y,rfl,q D J H' sH e ha ks⟩
end
noncomputable def CdO(c:Addr)(q:Str):HO:=.ext fun h=>h.CodeRec (.ref c) q
noncomputable def FnO(f:Addr)(o:Obj):HO:=.ext fun h=>h.get? f=some o
theorem CdO.ok(x:h.CodeRec (.ref c) q):ObjOk P w H h c (CdO c q):=by
 show⟨x,?_,fun h1 d r k=>?_⟩
 .obtain⟨b,o,ws,t,e,a,_⟩:=x;cases e;show⟨o,a⟩
 .obtain⟨b,o,ws,t,e,a,r⟩:=r;cases e;show⟨c,o,ws,t,rfl,k o a,r⟩
theorem FnO.ok{o:Obj}(x:h.get? f=some o):ObjOk P w H h f (FnO f o):=⟨x,⟨_,x⟩,fun _ _ r k=>k _ r⟩
def TbO(H:Hp)(P:Addr)(pos:Pos)(q:Str):Prop:=∃ ps:Array Value,H P=some (.tbl ps)/\TriplesOk ps.toList/\(codeAmong pos ps.toList=none\/∃ a,codeAmong pos ps.toList=some (.ref a)/\H a=some (CdO a q))
theorem TbO.same{H':Hp}{P:Addr}{pos:Pos}(h:TbO H P pos q)(s:L2.Same H H'):TbO H' P pos q:=by
 obtain⟨ps,h1,d,e⟩:=h;show⟨ps,s _ _ h1,d,e.imp id fun⟨c,a,b⟩=>⟨c,a,s _ _ b⟩⟩
def qcy(P:Addr)(H H':Hp):Prop:=∀ b o,b≠P->H b=some o->H' b=some o
section
variable{X:Cx}{pins:List (Addr×Obj)}{σ:St}{H:Hp}{s:Shared}{E:Value->Shared->Prop}
theorem lam_make{P:Addr}{pos:Pos}{g:List (Str×Addr)}{Q:VK}(I:Inv X pins σ H s)(l:X.env.code=.ref c)(C:CodeHd X.base c P)(hb:X.base.BuiltinsAt X.mg P)(T:TbO H P pos (X.env.qual++"<lambda>"))(B:closureFor scope X.env=pure g)(D:defaultsOf params X.env=([],[]))
  (q:∀ f a pm h H',qcy P H H'->TbO H' P pos (X.env.qual++"<lambda>")->H f=none->H' f=some (FnO f (kla_obj "<lambda>" (X.env.qual++"<lambda>") params body scope g pm a h))->H' a=some (CdO a (X.env.qual++"<lambda>"))->Q (.ref f) H') :
  wpAny (model X.prog X.w) X.A (eval (.Lambda params body scope pos) X.env) (EP X pins σ Q) E s:=by
 obtain⟨ps,i,G,x⟩:=T;show kla_eval D ?_;have U:=I.mod.glob.keeps I.bk;have p:s.heap.get? P=some (tabObj ps):=I.hok _ _ i
 have hB:s.heap.BuiltinsAt X.mg P:=by
  obtain⟨bm,o,b1,b2,b3,b4,b5,b6⟩:=hb;show⟨bm,o,b1,b2,b3,b4,I.bk _ _ b5,b6⟩
 have lt:∀ b u,H b=some u->b<s.heap.objs.size:=fun b u e=>kE fun z=>by rw[I.hok.fresh z] at e;cases e
 rcases x with x | ⟨a,x,hc'⟩
 .have W:mainGlobals≠P:=fun z=>by
   obtain⟨o,es,ep,e,hd,_⟩:=U;rw[z,p] at e;cases e;cases hd
  show kla_makeFunction (mg:=X.mg) B I.ok.glob U l (C.keeps I.bk) p G x W hB fun a h h' tk hx j m F Y=>?_;have n1:a≠P:=fun z=>by have:=lt _ _ i;rw[z] at j;show absurd this (Nat.not_lt.mpr j)
  have n2:h'.objs.size≠P:=fun z=>by rw[<- z] at i;show absurd (kI (lt _ _ i) (xw j m)) (Yd _)
  have n3:a≠h'.objs.size:=yN m;have K:∀ b,b<s.heap.objs.size->b≠a/\b≠h'.objs.size:=fun b hb=>⟨yN (yj hb j),yN (kI (yj hb j) m)⟩;have eo:∀ b,b<s.heap.objs.size->b≠P->∀ o1 o2 o3,upd (upd (upd H P o1) a o2) h'.objs.size o3 b=H b:=fun b hb S o1 o2 o3=>by rw[qh (K b hb).2,qh (K b hb).1,qh S]
  have L:∀ b o,b≠P->s.heap.get? b=some o->(h'.push (kla_obj "<lambda>" (X.env.qual++"<lambda>") params body scope g ((X.mg "__name__").getD .none) a h)).get? b=some o:=fun b o n e=>yt _ (hx b o n e);have O:upd (upd (upd H P (.tbl (ps++#[rawInt pos.line,rawInt pos.col,.ref a]))) a (CdO a (X.env.qual++"<lambda>"))) h'.objs.size (FnO h'.objs.size (kla_obj "<lambda>" (X.env.qual++"<lambda>") params body scope g ((X.mg "__name__").getD .none) a h)) P=some (.tbl (ps++#[rawInt pos.line,rawInt pos.col,.ref a])):=by rw[qh (Yq n2),qh (Yq n1),qc]
  have R:upd (upd (upd H P (.tbl (ps++#[rawInt pos.line,rawInt pos.col,.ref a]))) a (CdO a (X.env.qual++"<lambda>"))) h'.objs.size (FnO h'.objs.size (kla_obj "<lambda>" (X.env.qual++"<lambda>") params body scope g ((X.mg "__name__").getD .none) a h)) a=some (CdO a (X.env.qual++"<lambda>")):=by rw[qh n3,qc]
  have y:qcy P H (upd (upd (upd H P (.tbl (ps++#[rawInt pos.line,rawInt pos.col,.ref a]))) a (CdO a (X.env.qual++"<lambda>"))) h'.objs.size (FnO h'.objs.size (kla_obj "<lambda>" (X.env.qual++"<lambda>") params body scope g ((X.mg "__name__").getD .none) a h))):=fun b o n e=>by rw[eo b (lt b o e) n];show e
  have J:=yt (kla_obj "<lambda>" (X.env.qual++"<lambda>") params body scope g ((X.mg "__name__").getD .none) a h) Y;show⟨.ref h'.objs.size,_,I.un (t':=tk) ⟨fun b o e n hb _=>L b o (fun z=>by rw[z,i] at n;cases n) e,fun b o e n hb _=>⟨o.slots,L b o (fun z=>by rw[z,i] at n;cases n) e⟩,fun b o e n _=>(eo b (yF e) (fun z=>by rw[z,i] at n;cases n) _ _ _).trans n,fun b o e _=>?_,fun b xs e=>y b _ (fun z=>by rw[z,i] at e;cases e) e,fun b o u e=>y b _ (fun z=>by rw[z,i] at e;cases e) e,fun b qs e=>?_⟩ (fun b u e=>?_),rfl,q _ a _ h _ y ⟨_,O,?_,.inr ⟨a,?_,R⟩⟩ (I.hok.fresh (yP (xw j m))) qc R⟩
  .by_cases z:b=P
   .subst z;show⟨_,J⟩
   .show⟨o,L b o z e⟩
  .by_cases z:b=P
   .subst z;rw[i] at e;cases e;show⟨_,O⟩
   .show⟨#[],by rw[y b _ z e];simp⟩
  .by_cases z:b=h'.objs.size
   .subst z;rw[qc] at e;cases e;show FnO.ok (yK _ rfl)
   .by_cases z2:b=a
    .subst z2;rw[R] at e;cases e;show CdO.ok ?_;obtain⟨c2,o,ws,t,e2,ho,r⟩:=F;cases e2;show⟨b,o,ws,t,rfl,yt _ ho,r⟩
    .by_cases Z:b=P
     .subst Z;rw[O] at e;cases e;show J
     .rw [qh z,qh z2,qh Z] at e;show(I.hok b u e).stay (fun d v hd q=>L d v (fun z=>?_) q) (fun d hd=>y d _ (fun z=>by rw[z,i] at hd;cases hd) hd) fun d xs hd=>y d _ (fun z=>by rw[z,i] at hd;cases hd) hd;rcases hd with hd | hd
      .show Z (hd.symm.trans z)
      .rw [z,i] at hd;cases hd
  .have N:(ps++#[rawInt pos.line,rawInt pos.col,Value.ref a]).toList=ps.toList++[rawInt pos.line,rawInt pos.col,.ref a]:=by simp
   rw[N];show TriplesOk_snoc _ _ _ _ G
  .have N:(ps++#[rawInt pos.line,rawInt pos.col,Value.ref a]).toList=ps.toList++[rawInt pos.line,rawInt pos.col,.ref a]:=by simp
   rw[N];show codeAmong_snoc _ G x
 .show kla_makeFunctionHit (mg:=X.mg) B I.ok.glob U l (C.keeps I.bk) p G x hB fun h h' tk hk kq=>?_;have hn:H h'.objs.size=none:=I.hok.fresh kq;have M:=Same.put (o:=FnO h'.objs.size (kla_obj "<lambda>" (X.env.qual++"<lambda>") params body scope g ((X.mg "__name__").getD .none) a h)) (Same.refl H) hn;show⟨.ref h'.objs.size,_,I.laid (t':=tk) (fun b o e=>yt _ (hk b o e)) kq (FnO.ok (yK _ rfl)),rfl,q _ a _ h _ (fun b o _ e=>M b o e) ⟨ps,M _ _ i,G,.inr ⟨a,x,M _ _ hc'⟩⟩ hn qc (M _ _ hc')⟩
noncomputable def qei(X:Cx)(A:Around)(N:LS)(b:Str)(scope:Scope)(f c:Addr)(a:List (Str×Addr))(s:Shared)(H:Hp):Cx where
 prog:=X.prog
 w:=X.w
 K:=X.K
 mg:=X.mg
 base:=X.base
 A:=A.deeper (envX b scope s.heap.objs.size f (.ref c) a)
 N:=N
 s₀:=s
 H₀:=H
 env:=envX b scope s.heap.objs.size f (.ref c) a
 outer:=X.stack
 stack:=envX b scope s.heap.objs.size f (.ref c) a::X.stack
 ex:=[]
 calm:=true
 fn:=fun _=>false
 pn:=[]
 xe:=fun _ _=>False
structure LamSc(scope:Scope)(p w:Str):Prop where
 kind:scope.kind=.function
 co:scope.isCoroutine=false
 gen:scope.isGenerator=false
 par:scope.names.lookup p=some .local
 fre:scope.names.lookup w=some .free
 noc:∀ x∈scope.names,x.2≠.cell
 one:∀ x,scope.names.lookup x=some .cell\/scope.names.lookup x=some .free->x=w
theorem lam_call{n g:Addr}{a p d:Str}{pm G:Value}{iw:Nat}{v T:V}{u:Value}{t:TE}{Q:VK}(I:Inv X pins σ H s)(hA:A.frames=some X.stack)(hh:A.handled=none)(C:A.depth<recursionLimit)
  (hf:H f=some (FnO f (kla_obj "<lambda>" a params body scope [(d,g)] pm n G))) (hc:H n=some (CdO n a)) (B:bindArgs (kla_fn "<lambda>" a params body scope [(d,g)] pm (.ref n) G) ⟨[u],[]⟩=pure [(p,u)]) (S:LamSc scope p d) (ab:p≠d)
  (K:X.env.cells.lookup d=some g) (L:X.env.kindOf d=some .cell) (hi:X.N[iw]?=some d) (Z:σ[iw]?=some (some T)) (rv:RelV v u)
  (hb:PE (qei X A [p,d] a scope f n [(d,g)] s H) body t) (ht:t [some v,some T] H Q):wpAny (model X.prog X.w) A (call (.ref f) [u]) (EP X pins σ Q) E s:=by
 have q:=I.env0;show xj (kla_callFunE (body:=body) C (I.hok _ _ hf).1 rfl S.co S.gen rfl (I.hok _ _ hc).1 ?_);rw[B];show yv (wpAny_newFunctionEnv S.noc (fun y Y=>?_) (fun l W M=>⟨(I.nolimit).fresh _ M,?_⟩) S.kind)
 .have e:y=(p,u):=by simpa using Y
  rw[e];show S.par
 show codeAny _ _ (.expr body (envX a scope s.heap.objs.size f (.ref n) [(d,g)])) _ _;have U:∀ b o,s.heap.get? b=some o->l.get? b=some o:=fun b o e=>M.extBut b o (yN (yF e)) (yt _ e);obtain⟨m,_,hl⟩:=I.loc;obtain⟨R,aa,lk⟩:=hl iw d T hi Z (.inr (.inl L))
 have F:s.heap.IsCell g (some R):=by
  rcases lk with⟨k,_⟩ | ⟨_,c,e,z⟩
  .rw [L] at k;cases k
  .rw [K] at e;cases e;show z
 have j:l.IsCell g (some R):=let ⟨o,ho,hd⟩:=F;⟨o,U _ _ ho,hd⟩
 have P:∀ x c,([(d,g)]:List (Str×Addr)).lookup x=some c->x=d/\c=g:=fun x c e=>by
  rw[xt] at e;by_cases z:x=d
  .subst z;rw[xu] at e;show⟨rfl,(ym e).symm⟩
  .rw [Yr.mpr z] at e;cases e
 have D:∀ b:Addr,b∉(qei X A [p,d] a scope f n [(d,g)] s H).ex:=fun b z=>absurd (show b∈([]:LI) from z) (by simp)
 have J:Inv (qei X A [p,d] a scope f n [(d,g)] s H) [] [some v,some T] H { s with heap:=l,toks:=s.toks + [(p,u)].length }:=by
  show⟨⟨q.mod,S.kind,rfl,rfl,yh _,fun y z c h1 r=>(P y c h1).1.trans (P z c r).1.symm,fun y Y=>?_,(fun y c h=>by cases h),fun _=>hh,XM hA,.inr ⟨rfl,rfl⟩,fun b z=>absurd z (D b),q.bs,q.bsz,fun b _ _=>D b,fun b z=>absurd z (D b),q.funs,q.frf⟩,
   rfl,q.bare,Un.kept U,⟨_,W,fun i y v' h1 r h3=>?_⟩,fun y c h=>⟨some R,(P y c h).2 ▸ j⟩,q.hok.fresh (yh _),fun y c h=>by rw[(P y c h).2];show I.freeC d g K,fun p hp=>absurd (show p∈([]:List (Addr×Obj)) from hp) (by simp),q.hok.kept U,rfl⟩
  .have e:=S.one y Y;show⟨g,by rw[e];show List.lookup_cons_self⟩
  .match i,h1,r with
   | 0,h1,r =>
    cases h1;cases r;show⟨u,rv,.inl ⟨S.par,by simp⟩⟩
   | 1,h1,r =>
    cases h1;cases r;show⟨R,aa,.inr ⟨.inr S.fre,g,List.lookup_cons_self,j⟩⟩
   | i+2,h1,_=>cases h1
 show kla_codeExpr (Ym (hb [] _ _ H Q J ht) (fun u' s' ⟨v',H',O,r',q'⟩=>?_) fun _ _ z=>z.elim);show I.after ⟨v',H',O.os,O.bare,O.base,O.hok,r',q'⟩
end
end L2
namespace L2
open PySem PySem.Spec PyProof.Rows
variable{c p:Addr}{ps:Array Value}{x:Str}
theorem law_callT{P:Program}{w:World}{K:yg}{mg Y:Str->Option Value}{CX:CXT}{k:Nat}{R a:Addr}{fd:FuncData}{sp:Sp}{f:Shared}{vs:List Value}{ns:LQ}
  (KX:K.In f.heap) (J:f.heap.Ns mainGlobals mg) (hb:f.heap.Ns builtinsNs Y) (T:∀ x:Str,x≠"__name__"->Y x=bootBuiltins x) (I:f.heap.NoLimit) (hg:f.gens=#[])
  (B:f.heap.get? a=some { cls:=.type "list",data:=.seq vs.toArray }) (hi:IntsAre vs ns) (hl:ns.length<=sizeLine) (hr:Room k callerA) (E:f.heap.TableAt c p ps) (W:K.lookup p=none)
  (F:∀ base:Heap,K.In base->base.Ns mainGlobals mg->FnOk P w K mg base CX k R fd [x] sp) (A:∀(s:Shared) (u:Value),BindsTo s fd ⟨[u],[]⟩ [(x,u)])
  (X:∀ H:Hp,H p=some (.tbl ps)->SqL K H a (ns.map V.int)->sp [.ref a] H (fun v _=>v=.bl true) fun _ _ _=>False)
  (S:∀ H e s',CX [] H f (fun _ _ _=>False) e s'->False) :
  codeAny (model P w) callerA (.call (.ref R) ⟨[.ref a],[]⟩) (fun r s'=>r=.ok (.ret (.bool true))/\OldK f.heap s'.heap/\s'.os=f.os/\AllBare s'.gens) f:=by
 have rv:=qad hi;have N:=hi.length;have l:∀ H:Hp,H p=some (.tbl ps)->(∀ b,b=p\/H b=none\/∃ o xs,H b=some (.frz o (.lst xs)))->SqL K H a (ns.map V.int)->HOk P w H f.heap->(∀ b,H b≠none->b=a\/b=p)->(H a≠none->K.lookup a=none) ->
   codeAny (model P w) callerA (.call (.ref R) ⟨[.ref a],[]⟩) (fun r s'=>r=.ok (.ret (.bool true))/\OldK f.heap s'.heap/\s'.os=f.os/\AllBare s'.gens) f:=by
  intro H hp hO hS L hA hK;have base_of:∀{b:Addr} {o:Obj},f.heap.get? b=some o->H b=none->(qcI f.heap H).get? b=some o:=fun e n=>qcJ e n
  have Z:∀{b:Addr} {o:Obj} {es:Array DictEntry} {ep:Nat},f.heap.get? b=some o->o.data=.dict es ep->H b=none:=fun{b o es ep} e d=>by
   cases q:H b with
   | none=>rfl
   | some u =>
    rcases hA b (by rw[q];simp) with e' | e'
    .subst e';rw[B] at e;cases e;have d':Data.seq vs.toArray _=Data.dict es ep:=d;cases d'
    .subst e';rw[E.2] at e;cases e;cases d
  have i:∀{b:Addr} {m:Str->Option Value},f.heap.Ns b m->(qcI f.heap H).Ns b m:=fun{b m} ⟨o,es,ep,e,d,r⟩=>⟨o,es,ep,base_of e (Z e d),d,r⟩
  have D:K.In (qcI f.heap H):=fun b o e=>base_of (KX b o e) (by
   cases q:H b with
   | none=>rfl
   | some u =>
    rcases hA b (by rw[q];simp) with e' | e'
    .subst e';rw[hK (by rw[q];simp)] at e;cases e
    .subst e';rw[W] at e;cases e)
  have hM:Mod K mg (qcI f.heap H):=⟨D,i J,⟨Y,i hb,T⟩,let ⟨mc,h1,h2⟩:=I;⟨mc,i h1,h2⟩⟩;have e0:Env0 P w K mg (qcI f.heap H) callerA [] f H:=⟨rfl,hM,fun b o e=>qdw e,Xb (qbJ _ _),trivial,fun b hb=>absurd (show b∈([]:LI) from hb) (by simp),L,.of_eq hg⟩;show Y6 ((F _ D (i J)).run callerA [] f H ⟨[.ref a],[]⟩ [.ref a] [.ref a] _ _ hr e0 (A f (.ref a)) (.cons rfl .nil) (X H hp hS)) fun r s' h=>?_
  cases r with
  | error e=>show(S H e s' h).elim
  | ok fl =>
   cases fl with
   | next=>show False.elim h
   | brk=>show False.elim h
   | cont=>show False.elim h
   | ret u =>
    obtain⟨v,H',os,C,un,t,r',q⟩:=h;have q':v=.bl true:=q;subst q';obtain rfl:u=Value.bool true:=r';show⟨rfl,⟨fun b o e=>?_,fun b o e=>un.there b o e (by simp)⟩,os,C⟩;rcases hO b with z | q | ⟨ob,xs,z⟩
    .subst z;obtain⟨y,z2⟩:=un.tbls b ps hp;have O:s'.heap.get? b=some { cls:=.none,data:=.fields (ps++y) }:=t b _ z2;rw[E.2] at e;cases e;show .inr (.inl ⟨E.isCodeTable,rfl,ps,y,rfl,O⟩)
    .show .inl (un.keep b o e q (by intro z;show absurd (show b∈([]:LI) from z) (by simp)) (by simp))
    .have z2:=un.frzs b ob _ z;obtain⟨e1,_⟩:=L b _ z;obtain⟨O,_⟩:=t b _ z2;rw[e] at e1;cases e1;show .inl O
 have G:a≠p:=fun z=>by rw[z,E.2] at B;cases B
 have M:∀{H:Hp},ObjOk P w H f.heap p (.tbl ps):=E.2
 cases U:K.lookup a with
 | some o =>
  have e:=KX a o U;rw[B] at e;cases e;show l (fun b=>if b=p then some (.tbl ps) else none) (yG rfl) (fun b=>?_) (.inr ⟨_,vs.toArray,_,U,rfl,rfl,rfl,by rw[yw,N];show hl,by simpa using rv⟩) (fun b u z=>?_) (fun b z=>?_) fun z=>absurd (yB G) z
  .by_cases hb:b=p
   .show .inl hb
   .show .inr (.inl (yB hb))
  .by_cases hb:b=p
   .have j:=(yG hb).symm.trans z;cases j;subst hb;show M
   .have j:=(yB hb).symm.trans z;cases j
  .by_cases hb:b=p
   .show .inr hb
   .show absurd (yB hb) z
 | none =>
  show l (fun b=>if b=p then some (.tbl ps) else if b=a then some (.frz { cls:=.type "list",data:=.seq vs.toArray } (.lst (ns.map V.int))) else none) (yG rfl) (fun b=>?_) (.inl (.inr ⟨{ cls:=.type "list",data:=.seq vs.toArray },(yB G).trans (yG rfl)⟩)) (fun b u z=>?_) (fun b z=>?_) fun _=>U
  .by_cases hb:b=p
   .show .inl hb
   .by_cases g:b=a
    .show .inr (.inr ⟨_,_,(yB hb).trans (yG g)⟩)
    .show .inr (.inl ((yB hb).trans (yB g)))
  .by_cases hb:b=p
   .have j:=(yG hb).symm.trans z;cases j;subst hb;show M
   .by_cases g:b=a
    .have j:=((yB hb).trans (yG g)).symm.trans z;cases j;subst g;show⟨B,by rw[ya];show hl,vs,_,rv,B⟩
    .have j:=((yB hb).trans (yB g)).symm.trans z;cases j
  .by_cases hb:b=p
   .show .inr hb
   .by_cases g:b=a
    .show .inl g
    .show absurd ((yB hb).trans (yB g)) z
theorem walk_ofT{l:PySem.W.OpenLaw}{n k:Nat}{q:Program}{loose:LS}{XP:(Str->Option Value)->Heap->Prop}{YP:World->Heap->Prop}{d:DefRec}{K:Params->yg}{CX:World->CXT}{sp:World->Sp}
  (X:l.most=some n) (C:n<=sizeLine) (A:d.params.defaults=[]) (Z:Room k callerA)
  (R:∀(w:World) (h:Heap),YP w h->(K w.params).In h/\h.TableAt c p ps) (D:∀ w:World,(K w.params).lookup p=none)
  (F:∀(w:World) (mg:Str->Option Value) (t:Addr) (h:Heap),(K w.params).In h->h.Ns mainGlobals mg->mg d.name=some (.ref t) ->
   ∃ y:FuncData,(∀(s:Shared) (u:Value),BindsTo s y ⟨[u],[]⟩ [(x,u)]) /\
    ∀ base:Heap,(K w.params).In base->base.Ns mainGlobals mg->FnOk l.prog w (K w.params) mg base (CX w) k t y [x] (sp w))
  (E:∀(w:World) (H:Hp) (a:Addr) (ns:LQ),ns.length<=n->H p=some (.tbl ps)->SqL (K w.params) H a (ns.map V.int)->sp w [.ref a] H (fun v _=>v=.bl true) fun _ _ _=>False)
  (z:∀(w:World) (H:Hp) (s:Shared) (e:Value) (s':Shared),CX w [] H s (fun _ _ _=>False) e s'->False) :
  PySem.W.WalkO q loose XP YP l.row.toRowW d [] (fun f vs=>PySem.call f vs):=by
 show Att.attach_call X A fun w J r mg mb t o pm cd L a vs ns G Y ho hd S B m j i U=>?_;obtain⟨I,P⟩:=R w _ Y;obtain⟨y,hb,M⟩:=F w mg t _ I G.T.g B;show law_callT I G.T.g G.T.b G.T.builtins G.T.nolimit U m j (yi i C) Z P (D w) M hb (fun H N O=>E w H a ns i N O) fun H e s'=>z w H r e s'
end L2
namespace L2
open PySem PySem.Spec PyProof.Rows PySem.W
variable{c tb:Addr}{h:Heap}
inductive SrK(K:yg)(P:Addr)(lp:Pos)(qual:Str)(iw:Nat)(t:TE)(σ:St)(x:V)(H:Hp)(Q:VK):Prop
 | mk (l:Addr) (xs:List V) (zk:LQ) (wv:V) (_:x=.ref l) (_:SqL K H l xs) (_:zk.length=xs.length) (_:xs.length<64) (_:TbO H P lp qual) (_:σ[iw]?=some (some wv))
  (_:∀(i:Nat) (v:V) (k:Int) (H':Hp),xs[i]?=some v->zk[i]?=some k->qcy P H H'->t [some v,some wv] H' fun r H2=>r=.int k/\L2.Same H' H2)
  (_:∀(D:Addr) (ys:List V) (H':Hp),qcy P H H'->TbO H' P lp qual->H D=none->H' D=some (.lst ys)->KSo zk xs ys->Q (.ref D) H')
def tSortK(K:yg)(P:Addr)(d:Pos)(a:Str)(iw:Nat)(e t:TE):TE:=fun b H Q=>e b H fun x c=>SrK K P d a iw t b x c Q
section
variable{X:Cx}{K:yg}{e body:Expr}{te t:TE}{p lp kp pos:Pos}{params:Arguments}{scope:Scope}{c P cw:Addr}{pn wn:Str}{iw:Nat}{k:Nat}
theorem qc3(hK:X.K=K)(hm:X.mg "sorted"=none)(r:X.env.code=.ref c)(C:CodeHd X.base c P)(hB:X.base.BuiltinsAt X.mg P)(hr:Room (k+3) X.A)(he:PE X e te)
  (Z:closureFor scope X.env=pure [(wn,cw)]) (F:defaultsOf params X.env=([],[])) (S:LamSc scope pn wn) (ae:pn≠wn) (aa:X.env.cells.lookup wn=some cw) (ac:X.env.kindOf wn=some .cell) (hi:X.N[iw]?=some wn)
  (m:∀(J:Str) (B:Value) (d:Addr) (a u:Value),bindArgs (kla_fn "<lambda>" J params body scope [(wn,cw)] B (.ref d) a) ⟨[u],[]⟩=pure [(pn,u)])
  (hb:∀(A:Around) (f d:Addr) (s:Shared) (H:Hp),Room (k+1) A->PE (qei X A [pn,wn] (X.env.qual++"<lambda>") scope f d [(wn,cw)] s H) body t)
  (hg:Gl X "sorted":=by rfl) (h1:starEach [e] X.env=(false,eval e X.env)::starEach [] X.env:=by rfl) (h2:(backTo pos (starEach [e] X.env)).any (·.1)=false:=by rfl) :
  PE X (.Call (.Name "sorted" p) [e] [⟨some "key",.Lambda params body scope lp,kp⟩] pos) (tSortK K P lp (X.env.qual++"<lambda>") iw te t):=by
 subst hK;intro G s σ H Q I h;show YR (qa8 (u:=.builtin "sorted") I hg hm rfl ?_ (by decide) (by decide));show callWith_kw ?_ (by rw[h1];rfl) h2 rfl rfl;show thn (qa he qd h1 pos G s σ H (fun vs L=>match vs with | [x]=>SrK X.K P lp (X.env.qual++"<lambda>") iw t σ x L Q | _=>False) I h) fun us s1 ⟨vs,L,I1,r1,y⟩=>?_
 match vs,r1,y with
 | [],_,y=>show y.elim
 | _::_::_,_,y=>show y.elim
 | [x],r1,y =>
  obtain⟨l,xs,zk,wv,rfl,hl,ab,hw,T,af,kt,q⟩:=y;obtain⟨u,rfl,ru⟩:=qaa r1;obtain rfl:u=.ref l:=ru;show wpAny _ _ (evalAll [(do let v <- eval (.Lambda params body scope lp) X.env;standAt pos;pure v)]) _ _ s1;show wpAny_evalAll_cons (yr (thn (lam_make (Q:=fun v g=>∃ f d B a,v=.ref f/\qcy P L g/\TbO g P lp (X.env.qual++"<lambda>")/\g f=some (FnO f (kla_obj "<lambda>" (X.env.qual++"<lambda>") params body scope [(wn,cw)] B d a))/\g d=some (CdO d (X.env.qual++"<lambda>"))) I1 r C hB T Z F fun f d B a g j M _ U R=>⟨f,d,B,a,rfl,j,M,U,R⟩) fun v s2 ⟨v',g,I2,r2,f,d,B,a,e2,j,M,U,R⟩=>yr (xT (yv ?_))));subst e2;obtain rfl:v=.ref f:=r2;show wpAny_evalAll_nil ?_;show wpAny _ _ (call (.builtin "sorted") [.ref l] [(Str.ofString "key",.ref f)]) _ _ s2
  have ad:SqL X.K g l xs:=by
   obtain⟨ps,W,_⟩:=T;rcases hl with hl | hl
   .show .inl ?_;rcases hl with hl | ⟨o,hl⟩
    .show .inl (j _ _ (fun z=>by rw[z,W] at hl;cases hl) hl)
    .show .inr ⟨o,j _ _ (fun z=>by rw[z,W] at hl;cases hl) hl⟩
   .show .inr hl
  show sk_sorted I2 ad ab hw (fun i v u k H' s' hv hk rv E I'=>?_) fun D ys H' E O eD ks=>q D ys H' (fun b o n e=>E b o (j b o n e)) (M.same E) ?_ eD ks
  .have w:=hr.in1.in1;show lam_call I' I'.ok.frames w.hd w.depth (E _ _ U) (E _ _ R) (m _ _ _ _ _) S ae aa ac hi af rv (hb _ _ _ _ _ w) (kt i v k H' hv hk fun b o n e=>E b o (j b o n e))
  .cases e:L D with
   | none=>rfl
   | some o =>
    obtain⟨ps,W,_⟩:=id T;by_cases z:D=P
    .obtain⟨ag,Y,_⟩:=M;rw[z,Y] at O;cases O
    .rw [j D o z e] at O;cases O
end
theorem qeH{scope:Scope}{p w:Str}(h1:scope.kind=.function)(b:scope.isCoroutine=false)(c:scope.isGenerator=false)(d:scope.names.lookup p=some .local)(e:scope.names.lookup w=some .free)(a:∀ x∈scope.names,x.2≠.cell)(f:∀ x∈scope.names,x.2=.free->x.1=w):LamSc scope p w:=
 ⟨h1,b,c,d,e,a,fun x h=>by
  rcases h with h | h
  .show absurd rfl (a _ (YX h))
  .show f _ (YX h) rfl⟩
theorem qeI{X:Cx}{K:yg}{d e:Expr}{a:TE}(b:X.K=K)(c:PE X e a):PI X d e (qfX K a):=by subst b;show pi_tup c
theorem qeJ{k:Nat}{A:Around}(r:Room k A):A.units+100<cLine:=by have:=r.un;lk
section
variable{P:Program}{w:World}{K:yg}{mg:Str->Option Value}{base:Heap}
theorem Fun.okC{x b:Str}{st:Stmt}{f:Addr}{g:FuncData}{N ps:LS}{k:Nat}{sp:Sp}(F:Fun K x b st f g)(j:g.code=.ref c)(S:FnScope N ps (qg st))(len:∀ vs H Q E,sp vs H Q E->vs.length=ps.length)
  (d:∀(A:Around) (a:List Env) (s:Shared) (H:Hp) (vs:List V) (Q:VK) (E:XK),Room k (A.deeper (envOfC b (qg st) s.heap.objs.size f (.ref c)))->sp vs H Q E ->
   ∃ t,PSs (qcp CX0 P w K mg base N b (qg st) f (.ref c) A a s H E).nox (jE st) t/\t { nx:=fun _ H'=>Q .non H',rt:=Q } (start N vs) H):FnOk P w K mg base CX0 (k+1) f g ps sp:=by
 obtain⟨u,od,kV,m,v,r,e,ct,p,rfl,o,i⟩:=F.ex;obtain rfl:e=.ref c:=j;show qec o i S len fun A a s H vs Q E n l=>let ⟨t,h,q⟩:=d A a s H vs Q E n l;⟨t,h.nox,q⟩
end
def FGC(K:yg)(a:Str)(st:Stmt)(c:Addr):Prop:=∃ f b,PySem.W.nsIn K mainGlobals a=some (some (.ref f))/\Fun K a a st f b/\b.code=.ref c
noncomputable def qfQ(K:yg)(c tb:Addr):Bool:=match K.lookup c with
 | some ⟨.type t,_,.fields vs,_⟩=>t=="code"&&(match vs.getD 11 .none,vs.getD 18 .none,vs.getD 7 .none,vs.getD 9 .none,vs.getD 10 .none with
  | .ref q,.str _ _,.int _ _,.bool _,.int _ _=>q==tb&&decide (11<vs.size)&&c != tb
  | _,_,_,_,_=>false)
 | _=>false
theorem chd_of{K:yg}(X:K.In h)(e:qfQ K c tb=true):CodeHd h c tb:=by
 unfold qfQ at e;split at e
 .rename_i t d vs sl ho
  rw[yX] at e;obtain⟨g,a⟩:=e;split at a
  .rename_i q f tf fl tg b x tx h11 h18 h7 h9 h10
   rw[yX,yX] at a;obtain⟨⟨l,m⟩,n⟩:=a;have i:q=tb:=yY.mp l;have j:t="code":=yY.mp g;subst i j;have hl:=yk m;show⟨_,vs,f,tf,fl,tg,b,x,tx,X _ _ ho,rfl,rfl,?_,h11,h18,h7,h9,h10,by simpa using n⟩;rw[<- h11,Array.getD_eq_getD_getElem?,xB hl];rfl
  .cases a
 .cases e
noncomputable def bmB(K:yg)(a tb:Addr):Bool:=match K.lookup a with
 | some ⟨.type t,some d,.plain,_⟩=>t=="module"&&d==builtinsNs&&a != builtinsNs&&a != mainGlobals&&a != tb
 | _=>false
theorem qfv{K:yg}{a:Addr}{mg:Str->Option Value}(X:K.In h)(m:mg "__builtins__"=some (.ref a))(e:bmB K a tb=true):h.BuiltinsAt mg tb:=by
 unfold bmB at e;split at e
 .rename_i t d sl ho
  simp only[yX,yY,bne_iff_ne] at e;obtain⟨⟨⟨⟨b,c⟩,f⟩,g⟩,i⟩:=e;subst b c;show⟨a,_,m,f,g,i,X _ _ ho,rfl,rfl,rfl⟩
 .cases e
end L2
namespace L2
open PySem PySem.Spec PyProof.Rows
variable{α:Type}
noncomputable def pkL{α:Type}(lo st:Option Int)(xs:List α):List α:=(sliceRange (sliceBounds lo none st xs.length).1 (sliceBounds lo none st xs.length).2.1 (sliceBounds lo none st xs.length).2.2).filterMap (xs[·]?)
def tPk(K:yg)(f:TE)(tl g:TO):TE:=fun c H Q=>f c H fun x d=>tl c d fun l e=>g c e fun o b=>∃ a xs,x=.ref a/\SqL K b a xs/\o≠some 0/\∀ p,b p=none->Q (.ref p) (upd b p (.lst (pkL l o xs)))
theorem vPk{K:yg}{d:TE}{tl e:TO}{b:St}{H:Hp}{Q:VK}(h:d b H fun x f=>tl b f fun l g=>e b g fun o c=>∃ a xs,x=.ref a/\SqL K c a xs/\o≠some 0/\∀ p,c p=none->Q (.ref p) (upd c p (.lst (pkL l o xs)))):tPk K d tl e b H Q:=h
theorem qcz{xs:List V}{us:List Value}(r:Vals xs us):∀ l:LN,Vals (l.filterMap (xs[·]?)) (l.filterMap (us[·]?))
 | []=>.nil
 | i::l=>by
  rw[YO,YO]
  cases h:xs[i]? with
  | none=>rw[r.none_of h];show qcz r l
  | some x =>
   obtain⟨u,e,a⟩:=r.get h;rw[e];show .cons a (qcz r l)
section
variable{X:Cx}{K:yg}{e st:Expr}{lo:Option Expr}{te:TE}{tl ts:TO}{p2 pos:Pos}
theorem qdV(J:X.K=K)(L:PE X e te)(hl:PO X lo tl)(M:PO X (some st) ts):PE X (.Subscript e (.Slice lo none (some st) p2) pos) (tPk K te tl ts):=by
 subst J;intro c s i H Q I h;show Subscript_ (thn (L c s i H _ I h) fun v T ⟨x,y,C,S,P⟩=>?_);show kR (thn (hl c T i y _ C P) fun t U ⟨l,z,D,pl,R⟩=>?_);rw[XG];show yv ?_;show thn (M c U i z _ D R) fun u f ⟨o,B,E,pt,a,xs,F,N,G,q⟩=>?_;subst F;cases S;have j:Inv X c i B { f with heap:=f.heap.push { cls:=.type "slice",data:=.fields #[t,.none,u] } }:=E.kept (t':=f.toks) fun b O q=>yt _ q;obtain⟨d,r,n,W⟩:=j.list N;have g:=r.length;show wpAny (model X.prog X.w) X.A (subscriptTail e (.Slice lo none (some st) p2) (.ref a) (.ref f.heap.objs.size)) (EP X c i Q) X.xe { f with heap:=f.heap.push { cls:=.type "slice",data:=.fields #[t,.none,u] } };show tail_any (ops:=[.ref a,.ref f.heap.objs.size]) n.isList.typeIs Xv.lookup (Xh n.isList (Xm ..) pl .none pt G ?_ (by rw[yw]<;>lk)) (by with_unfolding_all rfl);have hsz:=slicePick_size_le d.toArray l none o
 have m:slicePick d.toArray l none o=(pkL l o d).toArray:=by
  unfold slicePick pkL;rw[yw];simp
 rw[m,yw,yw] at hsz;rw[m]
 have p:Vals (pkL l o xs) (pkL l o d):=by
  unfold pkL;rw[g];show qcz r _
 show⟨.ref _,_,j.laid (t':=f.toks) (o:=.lst (pkL l o xs)) (fun b O q=>yt _ q) (yh _) ?_,rfl,q _ (j.hok.fresh (yh _))⟩;show⟨by rw[p.length];lk,_,0,p,yK _ rfl⟩
end
theorem qeK{a:Type}(f:α->a)(lo st:Option Int)(xs:List α):pkL lo st (xs.map f)=(pkL lo st xs).map f:=by
 unfold pkL;rw[ya,List.map_filterMap]
 congr 1
 funext i;rw[yd]
theorem qeL{n:Nat}{xs:List α}(h:xs.length=2*n)(g:Nat->α)(f:∀ i,i<2*n->xs[i]?=some (g i))(b:Bool):pkL (if b then some 1 else none) (some 2) xs=(List.range n).map fun i=>g (2*i+b.toNat):=by
 unfold pkL;rw[h]
 have e:sliceRange (sliceBounds (if b then some 1 else none) none (some 2) (2*n)).1 (sliceBounds (if b then some 1 else none) none (some 2) (2*n)).2.1 (sliceBounds (if b then some 1 else none) none (some 2) (2*n)).2.2=(List.range n).map fun i=>2*i+b.toNat:=by
  cases n with
  | zero=>cases b<;>rfl
  | succ n =>
   have c:sliceBounds (if b then some 1 else none) none (some 2) (2*(n+1))=((b.toNat:Int),((2*(n+1):Nat):Int),2):=by
    cases b
    .simp [sliceBounds]
    .simp [sliceBounds];lk
   rw[c];unfold sliceRange;dsimp only;rw[yG (by decide),yG (by cases b<;>simp<;>lk)]
   have d:((((2*(n+1):Nat):Int)-(b.toNat:Int)+2-1) / 2).toNat=n+1:=by
    cases b
    .show((((2*(n+1):Nat):Int)-(0:Nat)+2-1) / 2).toNat=n+1;lk
    .show((((2*(n+1):Nat):Int)-(1:Nat)+2-1) / 2).toNat=n+1;lk
   rw[d];show Xd fun i _=>?_;lk
 rw[e,List.filterMap_map]
 have k:∀ l:LN,(∀ i∈l,i<n)->l.filterMap ((fun x=>xs[x]?) ∘ fun i=>2*i+b.toNat)=l.map fun i=>g (2*i+b.toNat):=fun l=>by
  induction l with
  | nil=>intro _;rfl
  | cons i l ih =>
   intro a;have hb:b.toNat<=1:=by cases b<;>decide
   have:=a i yy;rw[YO,yJ,<- ih fun j m=>a j (yu _ m)];show(match xs[2*i+b.toNat]? with | none=>_ | some b=>_)=_;rw[f _ (by lk)]
 show k _ fun i a=>yV.mp a
def rMinF:List V->Hp->VK->Prop:=fun xs H Q=>∃(p:Addr) (i:Int) (r:LQ),xs=[.ref p]/\H p=some (.lst ((i::r).map V.int))/\(∀ j∈r,i<=j)/\Q (.int i) H
theorem qca:∀{ns:LQ} {us:List Value},Vals (ns.map V.int) us->∃ xs:List (Int×Tok),us=xs.map (fun p=>Value.int p.1 p.2)/\ns=xs.map Prod.fst
 | [],_,.nil=>⟨[],rfl,rfl⟩
 | n::ns,_,.cons ⟨t,e⟩ r=>by
  obtain⟨xs,h1,a⟩:=qca r;show⟨(n,t)::xs,by rw[h1,e];rfl,by rw[a];rfl⟩
section
variable{X:Cx}{K:yg}
theorem k_minF(B:X.K=K)(hc:X.calm=true):jX X (.builtin "min") rMinF:=by
 intro g s D H xs us Q I r h;obtain⟨p,i,ns,rfl,w,o,q⟩:=h;obtain⟨u,rfl,y⟩:=qaa r;cases y;obtain⟨x,z,pl,C⟩:=I.list (SqL.of w);obtain⟨xs,rfl,e⟩:=qca z;have n:(xs.map fun p=>Value.int p.1 p.2).toArray=intItems xs.toArray:=by unfold intItems;simp
 have a:0<xs.length:=by
  have:=congrArg List.length e;rw[yC,ya] at this;lk
 show min_intList (xs:=xs.toArray) (I.ok.hd hc) (by rw[<- n];show pl.isList) (by simpa using a) fun v h' tk hv c=>?_;obtain⟨t,rfl⟩:=intItems_at hv
 have b:∀ j,numAt xs.toArray j=(i::ns).getD j 0:=fun j=>by
  rw[e];unfold numAt;rw[List.getElem?_toArray,YW,yd]
 have l:∀ k,k<(i::ns).length->numAt xs.toArray (argBest (fun i j=>decide (numAt xs.toArray i<numAt xs.toArray j)) k)=i:=fun k=>by
  induction k with
  | zero=>intro _;rw[show argBest (fun i j=>decide (numAt xs.toArray i<numAt xs.toArray j)) 0=0 from rfl,b];rfl
  | succ k ih =>
   intro c;have f:=ih (by lk);unfold argBest;rw[yB]
   .show f
   .intro m;have:=yk m;rw[f,b] at this;rw[List.getD_cons_succ] at this;have d:k<ns.length:=by rw[yC] at c;lk
    have A:=o (ns.getD k 0) (by rw[YW,yb d];show XF _);lk
 have hl:xs.toArray.size-1<(i::ns).length:=by
  rw[e,ya,yw];lk
 rw[l _ hl];show⟨.int i,H,I.kept c,⟨_,rfl⟩,q⟩
end
section
variable{P:Program}{w:World}{K:yg}{mg:Str->Option Value}{base:Heap}
theorem Fun.okC1{x b:Str}{st:Stmt}{f c:Addr}{g:FuncData}{N ps:LS}{k:Nat}{sp:Sp}(F:Fun K x b st f g)(i:g.code=.ref c)(S:FnScope N ps (qg st))(len:∀ vs H Q E,sp vs H Q E->vs.length=ps.length)
  (d:∀(A:Around) (a:List Env) (s:Shared) (H:Hp) (vs:List V) (Q:VK) (E:XK),Room k (A.deeper (envOfC b (qg st) s.heap.objs.size f (.ref c)))->sp vs H Q E ->
   ∃ t,PSs (qcp (CX1 P w) P w K mg base N b (qg st) f (.ref c) A a s H E) (jE st) t/\t { nx:=fun _ H'=>Q .non H',rt:=Q } (start N vs) H):FnOk P w K mg base (CX1 P w) (k+1) f g ps sp:=by
 obtain⟨q,od,kV,l,r,p,e,ct,o,rfl,n,h⟩:=F.ex;obtain rfl:e=.ref c:=i;show qec n h S len fun A a s H vs Q E m j=>d A a s H vs Q E m j
end
end L2
namespace K24
open PySem L2 PyProof.Rows
variable{A:Around}{B H H' H1 H2 J J':Hp}{C a c cw l p r tb x:Addr}{E:XK}{K:W.Frag}{M N e i j m m' n n':Nat}{U Yw ah pl seen ss zs:LS}{ab:Str×Str}{b s t y z:Str}{d ol v:V}{d0:PyData}{fd:FuncData}{g:Str->Option Str}{mg:Str->Option Value}{nb:Str->LS}{ns:LN}{o:HO}{ps:List (Str×LS)}{qs rs tps:LP}{ts us ws:LI}{w:World}{xs:List V}{α β:Type}
theorem Sr(H:Hp):L2.Same H H:=L2.Same.refl H
theorem zT{k:Nat}(a:Room k A):A.units+100<cLine:=by have:=a.un;lk
theorem hmR{k:Nat}(a:Room k A)(h:j<=k:=by decide):Room j A:=a.mono h
theorem KQ:FnScope ["self","text"] ["self","text"] (qg jm):=fS
theorem K1:FnScope ["self","found"] ["self","found"] (qg jI):=fS
local macro_rules | `(tactic| walk_at "w")=>`(tactic| first
 | with_reducible refine vSeq ?_ | with_reducible refine vAsg ?_ | with_reducible refine vAsgS ?_ | with_reducible refine vIfS ?_ | with_reducible refine vRet ?_ | with_reducible refine vNext ?_ | with_reducible refine vC ?_
 | ((with_reducible refine' vVar ?hv ?_);(case hv=>rfl)) | with_reducible refine vOp ?_ | with_reducible refine vChain ?_ | with_reducible refine vNil ?_ | with_reducible refine vCons ?_ | with_reducible refine vCB ?_ | with_reducible refine vCall ?_
 | with_reducible refine vLst ?_ | with_reducible refine vTup ?_ | with_reducible refine vTest ?_ | with_reducible refine vB ?_ | with_reducible refine vNot ?_ | with_reducible refine vAnd ?_ | with_reducible refine vOr ?_
 | with_reducible refine vAndV ?_ | with_reducible refine vOrV ?_ | with_reducible refine vNotV ?_ | with_reducible refine vYes ?_ | with_reducible refine vLeI ?_ | with_reducible refine vLeS ?_ | with_reducible refine vIsB ?_ | with_reducible refine vAddI ?_ | with_reducible refine vSl ?_ | with_reducible refine vNoPart ?_ | with_reducible refine vPart ?_ | with_reducible refine vExI ?_ | with_reducible refine vBM ?_ | with_reducible refine vBM0 ?_ | with_reducible refine vComp ?_ | with_reducible refine vFor ?_ | with_reducible refine vRng1 ?_ | with_reducible refine vAny ?_ | with_reducible refine vGN ?_ | with_reducible refine vI0 ?_ | with_reducible refine vEqI ?_ | with_reducible refine vEqB ?_ | with_reducible refine vEx ?_ | with_reducible refine vDrop ?_ | with_reducible refine vRetN ?_ | with_reducible refine vFldU ?_ | with_reducible refine vSFldU ?_ | with_reducible refine vXMake ?_ | with_reducible refine vMake ?_ | with_reducible refine vMeth ?_ | with_reducible refine vVinit ?_ | with_reducible refine vCallS ?_ | with_reducible refine vRaise ?_ | with_reducible refine vMethS ?_ | with_reducible refine vMakeS ?_ | with_reducible refine vUn ?_ | with_reducible refine vIf ?_ | with_reducible refine vRev ?_ | with_reducible refine vEnum ?_ | with_reducible refine vDGet2 ?_ | with_reducible refine vStep ?_)
local macro_rules | `(tactic| walk_at "v")=>`(tactic| repeat walk_at "w")
local macro_rules | `(tactic| ext)=>`(tactic| walk_at "v")
local macro_rules | `(tactic| apply $e)=>`(tactic| (ext;refine $e))
noncomputable def qe3(_:Nat):Str:="found"
structure Txt(K:W.Frag)(mg:Str->Option Value)(cc:Nat->Addr)(cw:Addr):Prop where
 b_len:mg "len"=none
 b_int:mg "int"=none
 b_enumerate:mg "enumerate"=none
 b_all:mg "all"=none
 b_max:mg "max"=none
 b_min:mg "min"=none
 b_isinstance:mg "isinstance"=none
 b_bool:mg "bool"=none
 b_str:mg "str"=none
 b_range:mg "range"=none
 b_list:mg "list"=none
 b_tuple:mg "tuple"=none
 b_ValueError:mg "ValueError"=none
 g_LONGEST_NAME:∃ tk,mg "LONGEST_NAME"=some (.int 6 tk)
 g_MOST_PLACES:∃ tk,mg "MOST_PLACES"=some (.int 14 tk)
 g_MOST_TIES:∃ tk,mg "MOST_TIES"=some (.int 30 tk)
 m_NoPairs:mg "NoPairs"=some (.ref (cc 0))
 m_NoRow:mg "NoRow"=some (.ref (cc 1))
 m_OnceError:mg "OnceError"=some (.ref (cc 2))
 vinit:VInit K
 xat:∀ i,i<2+1->XAt K (cc i)
 na:∀ i,i<2->NoAttr K (cc i) (qe3 i)
 kit:∀ i j,i<2->j<2->W.kitOne K (.ref (cc i)) (.ref (cc j))=some (decide (i=j))
 kitV:∀ i,i<2+1->W.kitOne K (.ref (cc i)) (.type "ValueError")=some true
 mroO:∀ i,i<2->W.mroIn K (cc i) (.ref (cc 2))=some true
 wcl:Cls K cw
 wn:NoAttr K cw "numbers"
 wo:NoAttr K cw "order"
 wr:NoAttr K cw "near"
 m_Web:mg "Web"=some (.ref cw)
 b_sorted:mg "sorted"=none
 b_repr:mg "repr"=none
 b_set:mg "set"=none
 smod:∃ o,K.lookup sysModules=some o
inductive spOnce(K:W.Frag)(vs:List V)(H:Hp)(Q:VK)(E:XK):Prop|mk (e C:Addr) (y:V) (_:vs=[.ref e,y]) (_:H e=some (XN e C none)) (_:XAt K C) (_:Q .non H)
inductive spX(C:Addr)(fl:Str)(vs:List V)(H:Hp)(Q:VK)(E:XK):Prop|mk (e:Addr) (v:V) (_:vs=[.ref e,v]) (_:H e=some (XN e C none)) (_:∀ dx,H dx=none->Q .non (upd (upd H dx (.xd [(fl,v)])) e (XN e C (some dx))))
theorem raise_done{g:Str}{y:V}(c:XAt K C)(q:∀ dx H',L2.Same H1 H'->H' dx=some (.xd [(g,y)])->E (.ref C) (some dx) H') :
  [y].length<=1000/\∀ x,H1 x=none->spX C g (.ref x::[y]) (upd H1 x (XN x C none)) (fun v H2=>v=.non/\∃ a f dx,(V.ref x)=.ref a/\H2 a=some (XN a f dx)/\XAt K f/\E (.ref f) dx (upd H2 a (XO a f dx))) E0:=by
 show⟨by show 1<=1000;decide,fun x h=>⟨x,y,rfl,qc,fun dx d=>⟨rfl,x,C,some dx,rfl,qc,c,q dx _ (fun b o e=>?_) ?_⟩⟩⟩
 .have nx:b≠x:=fun z=>by rw[z,h] at e;cases e
  have i:b≠dx:=fun z=>by rw[<- z,qh nx,e] at d;cases d
  rw[qh nx,qh nx,qh i,qh nx];show e
 .have nx:dx≠x:=fun z=>by rw[z,qc] at d;cases d
  rw[qh nx,qh nx,qc]
def Rz(a:Nat->Addr)(H:Hp)(E:XK)(r:Nat×V):Prop:=∀ dx H',L2.Same H H'->H' dx=some (.xd [(qe3 r.1,r.2)])->E (.ref (a r.1)) (some dx) H'
theorem Rz.later{a:Nat->Addr}{r:Nat×V}(h:Rz a H E r)(s:L2.Same H H1):Rz a H1 E r:=fun dx H' t e=>h dx H' (s.trans t) e
section
variable{P:Program}{w:World}{K:W.Frag}{mg:Str->Option Value}{base:Heap}{cc:Nat->Addr}{cw:Addr}{f:Addr}{fd:FuncData}
theorem ok_once(F:Fun K "__init__" "OnceError.__init__" jm f fd)(T:Txt K mg cc cw):FnOk P w K mg base CX0 1 f fd ["self","text"] (spOnce K):=by
 show F.ok KQ fun _ _ _ _ H vs Q E b h=>?_
 .obtain⟨e,C,y,rfl,a,c,q⟩:=h;show⟨_,(qf (q9 (k_vinit (K:=K) rfl T.vinit rfl T.b_ValueError boot_ValueError (qa (pv 0) (qa (pv 1) qd))))),?_⟩;apply⟨e,C,y,rfl,a,c,q⟩
theorem ok_NoPairs(F:Fun K "__init__" "NoPairs.__init__" jI f fd)(T:Txt K mg cc cw)(b:CMethOk P w K mg base CX0 1 (cc 2) "OnceError" "__init__" ["self","text"] (spOnce K)) :
  FnOk P w K mg base CX0 2 f fd ["self","found"] (spX (cc 0) (qe3 0)):=by
 show F.ok K1 fun _ _ _ _ H vs Q E c h=>?_
 .obtain⟨e,v,rfl,a,q⟩:=h;show⟨_,(qb (q9 (pe_clsmQ b (hmR c) (qa (pv 0) (qa qZ qd))))
 (qf (qbr (K:=K) rfl (pv 0) (pv 1) rfl))),?_⟩
  apply⟨e,_,_,rfl,a,T.xat 0 (by decide),?_⟩;apply .inr ⟨e,_,rfl,a,T.xat 0 (by decide),T.na 0 (by decide),q⟩
theorem K2:FnScope ["thing"] ["thing"] (qg jU):=fS
theorem uf:FnScope ["bits","number"] ["bits","number"] (qg qak):=fS
theorem KR:FnScope ["numbers","thing"] ["numbers","thing"] (qg zf):=fS
theorem Kk:FnScope ["numbers","thing","both"] ["numbers","thing"] (qg qP):=fS
theorem qF(a:L2.Same H H1)(hl:H1 l=none):L2.Same H (upd H1 l o):=fun c u e=>by
 have q:=a c u e;rw[qh (qC q hl)];show q
theorem qdW(a:L2.Same H H1)(hl:H l=none):L2.Same H (upd H1 l o):=fun c u e=>by
 rw[qh (qC e hl)];show a c u e
noncomputable def sg(c:Nat):Bool:=if (!decide (([c]:LN)<("a":Str).cps.toList))=true then !decide (("z":Str).cps.toList < [c]) else false
noncomputable def jF(x:Str):Bool:=if 1<=x.length/\x.length<=6 then x.cps.toList.all sg else false
theorem qc4{x:Str}(h:jF x=true):1<=x.length/\x.length<=6/\x.cps.toList.all sg=true:=by
 unfold jF at h;split at h
 .rename_i z;show⟨z.1,z.2,h⟩
 .cases h
theorem qcb(h:jF s=true):s.length<=6:=(qc4 h).2.1
structure All2{α β:Type}(R:α->β->Prop)(l:List α)(m:List β):Prop where
 len:l.length=m.length
 at_:∀(k:Nat) a b,l[k]?=some a->m[k]?=some b->R a b
theorem All2.nil{R:α->β->Prop}:All2 R [] []:=⟨rfl,fun k a b h=>by simp at h⟩
theorem All2.mono{R S:α->β->Prop}{l:List α}{m:List β}(h:All2 R l m)(f:∀ a b,R a b->S a b):All2 S l m:=⟨h.len,fun k a b x y=>f a b (h.at_ k a b x y)⟩
theorem All2.snoc{R:α->β->Prop}{l:List α}{m:List β}{x:α}{y:β}(h:All2 R l m)(r:R x y):All2 R (l++[x]) (m++[y]):=by
 show⟨by rw[yz,yz,h.len];rfl,fun k a b c hb=>?_⟩;by_cases d:k<l.length
 .rw [yT d] at c;rw[yT (by rw[<- h.len];show d)] at hb;show h.at_ k a b c hb
 .rw [Yv (by lk)] at c;rw[Yv (by rw[<- h.len];lk)] at hb
  have e:k-l.length=0:=by
   have:=(yc.mp c).1;simp at this;lk
  rw[<- h.len] at hb;rw[e] at c hb;cases c;cases hb;show r
theorem All2.mem{R:α->β->Prop}{l:List α}{m:List β}(h:All2 R l m){x:α}(c:x∈l):∃ y∈m,R x y:=by
 obtain⟨k,b,e⟩:=List.getElem_of_mem c;have a:k<m.length:=by rw[<- h.len];show b
 show⟨m[k],XF a,h.at_ k x m[k] (by rw[yb b,e]) (yb a)⟩
def PL(H:Hp)(l:Addr)(ts:LI)(tps:LP):Prop:=H l=some (.lst (ts.map V.ref))/\All2 (fun t ab=>H t=some (.tup [.str ab.1,.str ab.2])) ts tps
theorem PL.same(h:PL H l ts tps)(s:L2.Same H H'):PL H' l ts tps:=⟨s _ _ h.1,h.2.mono fun _ _ z=>s _ _ z⟩
inductive spName(vs:List V)(H:Hp)(Q:VK)(E:XK):Prop|mk (x:Str) (_:vs=[.str x]) (_:jF x=true) (_:∀ H',L2.Same H H'->Q (.bl true) H')
theorem ok_name(F:Fun K "is_name" "is_name" jU f fd)(T:Txt K mg cc cw):FnOk P w K mg base CX0 1 f fd ["thing"] spName:=by
 show F.ok K2 fun _ _ _ _ H vs Q E t h=>?_
 .obtain⟨x,rfl,n,q⟩:=h;obtain⟨u,r,s⟩:=qc4 n;show⟨_,(qb (qG (PW.pt (zl (qO (qN (qj (zG (K:=K) rfl) rfl T.b_isinstance YC (qa (pv 0) (qa (jt (v:=.ty "str") rfl T.b_str boot_str rfl) qd))))) (jY (qO (qcN qes qes qe (qj (jw (K:=K) rfl) rfl T.b_len Yy (qa (pv 0) qd)) (qaI rfl T.g_LONGEST_NAME)))))) (qf (qt jr)) qv)
 (qf (qt (qj (qfp (K:=K) rfl rfl) rfl T.b_all boot_all (qa (j7 (sc:=qg jU) (XN:=["thing"]) ["sign"] 1 [] rfl rfl rfl (by room) rfl (by room)
  (qM (K:=K) rfl (pv 0)) (fun _ _ _ _=>(qu (i:=0) (show(["sign"]:LS).Nodup by room) rfl (yI rfl))) jc
  (fun _ _ _ _=>jv)
  (fun _ _ _ _=>(qcM qes qes qZ (pv 0) qZ))) qd))))),?_⟩
  apply qaB (.inl (.str x)) rfl (jP K "str" (by simp) "str" (by simp)) ?_;apply yq ?_;apply qe0 (yi r (by decide)) ?_;apply qE (fun h1=>?_) fun h1=>absurd (yD (by lk)) h1;apply qE (fun j=>by simp only[xX,Xr] at j;lk) fun j=>?_;apply qcU (fun i g H'=>H'=H/\g=((x.cps.toList.take i).map sg).map V.bl) ⟨rfl,by simp⟩ (fun i c g H' hc e=>?_) fun g H' e=>?_
  .obtain⟨rfl,rfl⟩:=e;apply qaC ?_;ext
   have hl:(List.map V.bl (List.map sg (List.take i x.cps.toList))).length<sizeLine:=by
    rw[ya,ya,yL];show qi (yi (XD _ _) (by simpa [Str.length] using(show x.length<=1000 by lk)))
   have a:∀ b,b=sg c->(List.map V.bl (List.map sg (List.take i x.cps.toList)))++[V.bl b]=List.map V.bl (List.map sg (List.take (i+1) x.cps.toList)):=by
    intro b hb;have m:x.cps.toList[i]?=some c:=by simpa using hc
    rw[hb,yR,m];simp
   show qE (fun d=>?_) fun d=>⟨hl,rfl,a _ (by unfold sg;rw[yB d])⟩;apply⟨hl,rfl,a _ (by unfold sg;rw[yG d])⟩
  .obtain⟨rfl,rfl⟩:=e;have p:x.cps.toList.take x.cps.size=x.cps.toList:=by rw[<- Yx,Yc]
   rw[p];show⟨?_,fun l hl=>?_⟩
   .rw [ya,ya];show yP (qi (by simpa [Str.length] using(show x.length<=1000 by lk)))
   .ext;show⟨l,x.cps.toList.map sg,rfl,SqL.of qc,?_⟩;have z:=q _ (qF (Sr H') (o:=.lst ((x.cps.toList.map sg).map V.bl)) hl);rw[kK];rw[<- s] at z;show z
inductive spBit(vs:List V)(H:Hp)(Q:VK)(E:XK):Prop|mk (b n:Int) (_:vs=[.int b,.int n]) (_:0<=n) (_:Q (.bl (decide (Builtin.bitAnd (b / 2 ^ n.toNat) 1=1))) H)
theorem ok_bit(F:Fun K "has_bit" "has_bit" qak f fd):FnOk P w K mg base CX0 1 f fd ["bits","number"] spBit:=by
 show F.ok uf fun _ _ _ _ H vs Q E c h=>?_
 .obtain⟨b,n,rfl,a,q⟩:=h;have d:=zT c;show⟨_,(qf (qt (jo (zy (K:=K) rfl d) (qA op_and (qA op_shr (pv 0) (pv 1)) qe) qe (qx _)))),?_⟩;apply vI a ?_;apply .inl (.inl (.inl ⟨rfl,rfl,?_⟩));show q
noncomputable def qaJ:LS->Nat->List (Key×V)
 | [],_=>[]
 | s::r,i=>(.inr s,.int i)::qaJ r (i+1)
theorem qcc(y:Str):∀(ss:LS) (i:Nat),qaJ (ss++[y]) i=qaJ ss i++[(.inr y,.int (i+ss.length:Nat))]
 | [],i=>rfl
 | s::r,i=>by
  show(_::qaJ (r++[y]) (i+1))=_::(qaJ r (i+1)++_);rw[qcc y r (i+1)];have:i+1+r.length=i+(s::r).length:=by simp;lk
  rw[this]
theorem zr:∀(ss:LS) (i:Nat),(qaJ ss i).length=ss.length
 | [],_=>rfl
 | _::r,i=>congrArg (· + 1) (zr r (i+1))
theorem qa0:∀{ss:LS} {i:Nat},y∉ss->zi (qaJ ss i) (.inr y:Key)=none
 | [],_,_=>rfl
 | s::r,i,h=>by
  have h1:¬ s=y:=fun e=>h (by rw[e];show yy);show zi ((.inr s,V.int i)::qaJ r (i+1)) _=none;rw[qJ (p:=((.inr s:Key),V.int i)) (fun e=>h1 (xY e))];show qa0 fun m=>h (yu _ m)
theorem zg:∀{ss:LS} {i:Nat},y∈ss->∃ j,j<ss.length/\ss[j]?=some y/\zi (qaJ ss i) (.inr y:Key)=some (.int (i+j:Nat))
 | [],_,h=>by cases h
 | s::r,i,h=>by
  by_cases e:s=y
  .subst e;show⟨0,by simp,rfl,qS (p:=((.inr s:Key),V.int i)) rfl⟩
  .rcases yA.mp h with z | z
   .show absurd z.symm e
   .obtain⟨j,h1,b,c⟩:=zg (i:=i+1) z;show⟨j+1,by simp;lk,by simpa using b,?_⟩;show zi ((.inr s,V.int i)::qaJ r (i+1)) _=_;rw[qJ (p:=((.inr s:Key),V.int i)) (fun a=>e (xY a)),c];have:i+1+j=i+(j+1):=by lk
    rw[this]
theorem zY(y:Str)(ss:LS)(i:Nat):(zi (qaJ ss i) (.inr y:Key)).isSome=decide (y∈ss):=by
 by_cases h:y∈ss
 .obtain⟨j,_,_,e⟩:=zg (i:=i) h;rw[e,yD h];rfl
 .rw [qa0 h,yl h];rfl
inductive spPlace(vs:List V)(H:Hp)(Q:VK)(E:XK):Prop|mk (d:Addr) (ss:LS) (x:Str) (_:vs=[.ref d,.str x]) (_:H d=some (.dK (qaJ ss 0))) (_:jF x=true) (_:x∈ss) (_:∀ H',L2.Same H H'->Q (.bl true) H')
theorem ok_place(F:Fun K "is_place" "is_place" zf f fd)(c:DefOk P w K mg base CX0 1 "is_name" ["thing"] spName):FnOk P w K mg base CX0 2 f fd ["numbers","thing"] spPlace:=by
 show F.ok KR fun _ _ _ _ H vs Q E a h=>?_
 .obtain⟨d,ss,x,rfl,e,g,j,q⟩:=h;have i:=zT a;show⟨_,(qf (qt (zD (qo c (hmR a) qy (qa (pv 1) qd)) (zR (jo (qcx (K:=K) rfl i) (pv 1) (pv 0) (by with_unfolding_all rfl)))))),?_⟩;apply⟨x,rfl,g,fun H1 b=>?_⟩;apply qaC ?_;apply .inr (.inl ⟨d,_,rfl,DGet.k (k:=Sum.inr x) (b d _ e),?_⟩);rw[zY,yD j];show q H1 b
inductive spTwo(vs:List V)(H:Hp)(Q:VK)(E:XK):Prop|mk (d t:Addr) (ss:LS) (a b:Str) (_:vs=[.ref d,.ref t]) (_:H d=some (.dK (qaJ ss 0))) (_:H t=some (.tup [.str a,.str b])) (_:jF a=true) (_:jF b=true) (_:a∈ss) (_:b∈ss) (_:a≠b) (_:∀ H',L2.Same H H'->Q (.bl true) H')
theorem ok_two(F:Fun K "are_two_places" "are_two_places" qP f fd)(T:Txt K mg cc cw)(o:DefOk P w K mg base CX0 2 "is_place" ["numbers","thing"] spPlace):FnOk P w K mg base CX0 3 f fd ["numbers","thing"] spTwo:=by
 show F.ok Kk fun _ _ _ _ H vs Q E m h=>?_
 .obtain⟨d,t,ss,a,b,rfl,p,c,s,nb,r,hb,l,q⟩:=h;have g:=zT m;show⟨_,(qb (qG (PW.pt (zl (qO (qN (qj (zG (K:=K) rfl) rfl T.b_isinstance YC (qa (pv 1) (qa (jt (v:=.ty "tuple") rfl T.b_tuple kj rfl) qd))))) (jY (qk (zq (K:=K) rfl g) (qj (jw (K:=K) rfl) rfl T.b_len Yy (qa (pv 1) qd)) qe (qx _))))) (qf (qt jr)) qv)
 (qb (qp (i:=2) Kk.nd rfl (yI rfl) (zD (qo o (hmR m) qy (qa (pv 0) (qa (qq (qr (K:=K) rfl g) (pv 1) qe (fun _ _=>rfl)) qd))) (zR (qo o (hmR m) qy (qa (pv 0) (qa (qq (qr (K:=K) rfl g) (pv 1) qe (fun _ _=>rfl)) qd))))))
 (qf (qt (zD (pv 2) (zR (jo (zq (K:=K) rfl g) (qq (qr (K:=K) rfl g) (pv 1) qe (fun _ _=>rfl)) (qq (qr (K:=K) rfl g) (pv 1) qe (fun _ _=>rfl)) (qx _)))))))),?_⟩
  apply qaB (.inl (.tup c)) rfl (jP K "tuple" (by simp) "tuple" (by simp)) ?_;apply yq ?_;apply qe1 c ?_;apply .inl ⟨rfl,rfl,?_⟩;apply yq ?_;apply .inl (zo c rfl ?_);apply⟨d,ss,a,rfl,p,s,r,fun H1 j=>?_⟩;apply qaC ?_;apply .inl (zo (j _ _ c) rfl ?_);apply⟨d,ss,b,rfl,j _ _ p,nb,hb,fun H2 n=>?_⟩;apply qaC ?_;apply .inl (zo (n _ _ (j _ _ c)) rfl ?_);apply .inl (zo (n _ _ (j _ _ c)) rfl ?_);show .inl ⟨rfl,rfl,?_⟩;have z:=q H2 (j.trans n);have e:(if true=true then !eqV (V.str a) (V.str b) else eqV (V.str a) (V.str b))=true:=by simp[eqV,l]
  rw[e];show z
theorem KA:FnScope ["names","numbers","name"] ["names"] (qg j3):=fS
theorem qcA(m j:Nat):decide (Builtin.bitAnd ((m:Int) / 2 ^ (j:Int).toNat) 1=1)=m.testBit j:=by
 rw[PyProof.Rows.bitAnd_m1,Nat.testBit_eq_decide_div_mod_eq];rw[Yj];have e:(m:Int) / 2 ^ j=((m / 2 ^ j:Nat):Int):=by rw[Int.natCast_ediv,Int.natCast_pow];rfl
 rw[e]
 congr 1
 apply propext;lk
theorem qeM(m j:Nat):Builtin.bitOr (m:Int) (1*2 ^ (j:Int).toNat)=((m ||| 2 ^ j:Nat):Int):=by
 have e:(1*2 ^ (j:Int).toNat:Int)=((2 ^ j:Nat):Int):=by rw[Yj,Int.one_mul,Int.natCast_pow];rfl
 rw[e];generalize 2 ^ j=k;have c:Builtin.bitNot (m:Int)=-(m:Int)-1:=rfl;have d:Builtin.bitNot (k:Int)=-(k:Int)-1:=rfl;unfold Builtin.bitOr Builtin.bitAnd;rw[c,d,yl (by lk),yl (by lk)];dsimp only;unfold Builtin.bitNot;have a:(-(-(m:Int)-1)-1).toNat=m:=by lk
 have b:(-(-(k:Int)-1)-1).toNat=k:=by lk
 rw[a,b];lk
def But(x:Addr)(H H':Hp):Prop:=∀ b o,b≠x->H b=some o->H' b=some o
theorem But.refl(x:Addr)(H:Hp):But x H H:=fun _ _ _ e=>e
theorem But.same(a:But x H H1)(b:L2.Same H1 H2):But x H H2:=fun c o n e=>b c o (a c o n e)
theorem But.put(a:But x H H1):But x H (upd H1 x o):=fun c u n e=>by rw[qh n];show a c u n e
theorem But.new(a:But x H H1)(hl:H1 l=none):But x H (upd H1 l o):=a.same (qF (Sr H1) hl)
theorem qdX{q:Addr}{Q:VK}(h:H a=some (.lst xs))(b:H q=some (.tup [.ty "list",.ty "tuple"]))(k:Q (.bl true) H):qeA K [.ref a,.ref q] H Q:=
 ⟨_,q,_,_,[.type "list",.type "tuple"],true,rfl,.inl (.lst h),b,rfl,rfl,k⟩
inductive spNums(vs:List V)(H:Hp)(Q:VK)(E:XK):Prop|mk (a:Addr) (ss:LS) (_:vs=[.ref a]) (_:H a=some (.lst (ss.map V.str))) (_:ss.length<=14) (_:ss.Nodup) (_:(∀ s∈ss,jF s=true)) (_:∀ d H',L2.Same H H'->H d=none->H' d=some (.dK (qaJ ss 0))->Q (.ref d) H')
theorem ok_nums(F:Fun K "numbers_of" "numbers_of" j3 f fd)(T:Txt K mg cc cw)(M:DefOk P w K mg base CX0 1 "is_name" ["thing"] spName) :
  FnOk P w K mg base CX0 4 f fd ["names"] spNums:=by
 show F.ok KA fun _ _ _ _ H vs Q E G h=>?_
 .obtain⟨a,ss,rfl,l,N,r,s,q⟩:=h;have I:=zT G;show⟨_,(qb (qG (qO (qN (qj (qdM (K:=K) rfl) rfl T.b_isinstance YC (qa (pv 0) (qa (qV (qa (jt (v:=.ty "list") rfl T.b_list xv rfl) (qa (jt (v:=.ty "tuple") rfl T.b_tuple kj rfl) qd))) qd))))) (qf jG) qv)
 (qb (qG (qk qbp (qj (jw (K:=K) rfl) rfl T.b_len Yy (qa (pv 0) qd)) (qaI rfl T.g_MOST_PLACES) (qx _)) (qf jG) qv)
 (qb (qp (i:=1) KA.nd rfl (yI rfl) ju)
 (qb (qU yW rfl (qM (K:=K) rfl (pv 0)) (qu (i:=2) KA.nd rfl (yI rfl))
 (qb (qG (qO (qN (qo M (hmR G) qy (qa (pv 2) qd)))) (qf jG) qv)
 (qb (qG (qk (qcx (K:=K) rfl I) (pv 2) (pv 1) (by with_unfolding_all rfl)) (qf jG) qv)
 (qf (qT (qj (jw (K:=K) rfl) rfl T.b_len Yy (qa (pv 1) qd)) (jp (pv 1) (pv 2) (jq I)))))))
 (qf (qt (pv 1))))))),?_⟩
  apply⟨by show 2<=sizeLine;decide,fun g O=>?_⟩;have m:=qF (Sr H) (o:=.tup [.ty "list",.ty "tuple"]) O;apply qdX (m _ _ l) qc ?_;apply yq ?_;apply ze (m _ _ l) ?_;rw[ya];apply qE (fun h=>by have:=yk h;lk) fun _=>?_;ext;intro d C;have L:=qF m (o:=.dK []) C;have c:H d=none:=m.free C;apply .inl ⟨⟨_,SqL.of (L _ _ l)⟩,qR (K:=K) (fun i p H'=>∃ A,p=[some (.ref a),some (.ref d),A]/\L2.Same H H'/\H' d=some (.dK (qaJ (ss.take i) 0))) ⟨none,rfl,L,qc⟩ (fun i p H' _ e=>by obtain⟨_,_,z,_⟩:=e;show SqL.of (z _ _ l)) (fun i y p H' J e=>?_) fun p H' e=>?_⟩
  .obtain⟨A,rfl,u,b⟩:=e;rw[yd] at J;obtain⟨x,t,rfl⟩:=yn.mp J;have R:i<ss.length:=(yc.mp t).1;have j:ss.take (i+1)=ss.take i++[x]:=by rw[yR,t];rfl
   have D:x∉ss.take i:=fun z=>by
    have B:(ss.take (i+1)).Nodup:=r.sublist (km _ _);rw[j] at B;show(yZ.mp B).2.2 _ z x (by simp) rfl
   apply⟨x,rfl,s x (ye t),fun H1 n=>?_⟩;have S:=u.trans n;apply yq ?_;apply .inr (.inl ⟨d,_,rfl,DGet.k (k:=Sum.inr x) (n _ _ b),?_⟩);rw[zY,yl D];apply yq ?_;apply .inr ⟨_,n _ _ b,?_⟩;apply .inr ⟨d,_,rfl,DPut.k (k:=Sum.inr x) (n _ _ b) (qi (by rw[zr,yL];lk)),?_⟩;show⟨_,rfl,qdW S c,?_⟩;rw[qc,qaH _ (qa0 D),j,qcc,zr];simp only[xq]
  .obtain⟨A,rfl,u,b⟩:=e;ext;rw[ya,Yc] at b;show q d H' u c b
theorem ue:FnScope ["self","names","ties"] ["self","names","ties"] (qg zM):=fS
theorem Kv:FnScope ["numbers","ties","near","tie","one","other"] ["numbers","ties"] (qg qal):=fS
def qbh(ss:LS)(ns:LN)(seen:LP):Prop:=ns.length=ss.length/\(∀ a,ns.getD a 0<2 ^ ss.length)/\∀ a b s t,ss[a]?=some s->ss[b]?=some t->(ns.getD a 0).testBit b=decide ((s,t)∈seen\/(t,s)∈seen)
theorem jK(h:ss.Nodup){a b:Nat}(i:ss[a]?=some s)(hb:ss[b]?=some s):a=b:=by
 have e:=YZ.mp h;obtain⟨f,c⟩:=yc.mp i;obtain⟨g,d⟩:=yc.mp hb;rcases Nat.lt_trichotomy a b with q | q | q
 .show absurd (c.trans d.symm) (e a b f g q)
 .show q
 .show absurd (d.trans c.symm) (e b a g f q)
theorem bits_zero:qbh ss (List.replicate ss.length 0) []:=by
 have z:∀ a,(List.replicate ss.length 0).getD a 0=0:=fun a=>by
  simp only[List.getD,Xo];split<;>rfl
 show⟨by simp,fun a=>by rw[z a];show Nat.two_pow_pos _,fun a b s t c hb=>?_⟩;rw[z a];simp
theorem qam{v:Nat}(h:i<ns.length):(ns.set i v).getD j 0=if i=j then v else ns.getD j 0:=by
 simp only[List.getD,List.getElem?_set];by_cases e:i=j
 .subst e;simp[h]
 .simp [e]
theorem bits_step{seen:LP}(hb:qbh ss ns seen)(n:ss.Nodup)(d:ss[i]?=some s)(g:ss[j]?=some t)(m:s≠t) :
  qbh ss ((ns.set i (ns.getD i 0 ||| 2 ^ j)).set j (ns.getD j 0 ||| 2 ^ i)) (seen++[(s,t)]):=by
 obtain⟨hl,l,h⟩:=hb;have A:i<ns.length:=by rw[hl];show(yc.mp d).1
 have B:j<ns.length:=by rw[hl];show(yc.mp g).1
 have D:i≠j:=fun e=>by rw[e,g] at d;cases d;show m rfl
 have x:i<ss.length:=(yc.mp d).1;have y:j<ss.length:=(yc.mp g).1;show⟨by simp[hl],fun a=>?_,fun a b u v f c=>?_⟩
 .rw [qam (by simpa using B),qam A];split
  .show Nat.or_lt_two_pow (l _) (Nat.pow_lt_pow_right (by decide) x)
  .split
   .show Nat.or_lt_two_pow (l _) (Nat.pow_lt_pow_right (by decide) y)
   .show l _
 rw[qam (by simpa using B),qam A];have o:=h a b u v f c;have C:∀ P Q:Prop,(P↔Q)->∀ [Decidable P] [Decidable Q],decide P=decide Q:=fun P Q e=>by intro _ _;show YS.mpr e
 by_cases r:j=a
 .subst r;rw[g] at f;cases f;rw[yG rfl,Nat.testBit_or,o,Nat.testBit_two_pow];by_cases q:i=b
  .subst q;rw[d] at c;cases c;simp
  .have vs:v≠s:=fun e=>by subst e;show q (jK n d c)
   simp only[q,kX,kT];apply YS.mpr;simp only[yH,yx,kU];constructor
   .rintro (z | z)
    .show .inl (.inl z)
    .show .inr (.inl z)
   .rintro ((z | ⟨z,_⟩) | (z | ⟨z,_⟩))
    .show .inl z
    .show absurd z.symm m
    .show .inr z
    .show absurd z vs
 .rw [yB r];by_cases p:i=a
  .subst p;rw[d] at f;cases f;rw[yG rfl,Nat.testBit_or,o,Nat.testBit_two_pow];by_cases w:j=b
   .subst w;rw[g] at c;cases c;simp
   .have F:v≠t:=fun e=>by subst e;show w (jK n g c)
    simp only[w,kX,kT];apply YS.mpr;simp only[yH,yx,kU];constructor
    .rintro (z | z)
     .show .inl (.inl z)
     .show .inr (.inl z)
    .rintro ((z | ⟨_,z⟩) | (z | ⟨_,z⟩))
     .show .inl z
     .show absurd z F
     .show .inr z
     .show absurd z m
  .rw [yB p,o];have us:u≠s:=fun e=>by subst e;show p (jK n d f)
   have E:u≠t:=fun e=>by subst e;show r (jK n g f)
   apply YS.mpr;simp only[yH,yx,kU];constructor
   .rintro (z | z)
    .show .inl (.inl z)
    .show .inr (.inl z)
   .rintro ((z | ⟨z,_⟩) | (z | ⟨_,z⟩))
    .show .inl z
    .show absurd z us
    .show .inr z
    .show absurd z E
noncomputable def qc5(ns:LN):List V:=ns.map fun(n:Nat)=>.int (n:Int)
theorem qaK(h:i<ns.length):(qc5 ns)[i]?=some (.int (ns.getD i 0:Nat)):=by
 unfold qc5;rw[yd,yb h];simp[List.getD,h]
theorem qc6(ns:LN)(i m:Nat):(qc5 ns).set i (.int m)=qc5 (ns.set i m):=by
 unfold qc5;rw[List.map_set]
theorem natV_zero(k:Nat):(List.replicate k [V.int 0]).flatten=qc5 (List.replicate k 0):=by
 induction k with
 | zero=>rfl
 | succ k ih=>rw[xk,Yu,ih];rfl
theorem qdY(h:j<n):ixN n (j:Int)=some j:=by
 unfold ixN;rw[yG (by lk),yG (by lk)];rfl
def UN(x y:Str×Str):Prop:=x≠y/\x≠(y.2,y.1)
structure TGo(ss:LS)(tps:LP):Prop where
 few:tps.length<=30
 inn:∀ ab∈tps,ab.1∈ss/\ab.2∈ss/\ab.1≠ab.2
 un:tps.Pairwise UN
structure WOk(ss:LS)(ns:LN):Prop where
 len:ns.length=ss.length
 few:ss.length<=14
 nd:ss.Nodup
 lt:∀ a,ns.getD a 0<2 ^ ss.length
 nm:∀ s∈ss,jF s=true
inductive WebAt(cw:Addr)(H:Hp)(x:Addr)(ss:LS)(ns:LN):Prop|mk (dx d ol n:_) (_:H x=some (.ins cw dx (jN "near" (.ref n) (jN "order" (.ref ol) (jN "numbers" (.ref d) []))))) (_:H d=some (.dK (qaJ ss 0))) (_:H ol=some (.lst (ss.map V.str))) (_:H n=some (.lst (qc5 ns))) (_:WOk ss ns)
theorem WebAt.same(h:WebAt cw H x ss ns)(s:L2.Same H H'):WebAt cw H' x ss ns:=by
 obtain⟨dx,d,ol,n,h1,a,b,c,e⟩:=h;show⟨dx,d,ol,n,s _ _ h1,s _ _ a,s _ _ b,s _ _ c,e⟩
inductive WebN(H0:Hp)(cw:Addr)(H:Hp)(x:Addr)(ss:LS)(ns:LN):Prop|mk (dx d ol n:_) (_:H x=some (.ins cw dx (jN "near" (.ref n) (jN "order" (.ref ol) (jN "numbers" (.ref d) []))))) (_:H d=some (.dK (qaJ ss 0))) (_:H ol=some (.lst (ss.map V.str))) (_:H n=some (.lst (qc5 ns))) (_:WOk ss ns) (_:H0 d=none) (_:H0 ol=none) (_:H0 n=none)
theorem WebN.web{a:Hp}(h:WebN a cw H x ss ns):WebAt cw H x ss ns:=by
 obtain⟨dx,d,ol,n,h1,b,c,e,f,_⟩:=h;show⟨dx,d,ol,n,h1,b,c,e,f⟩
inductive WebP(A:Addr->Prop)(cw:Addr)(H:Hp)(x:Addr)(ss:LS)(ns:LN):Prop|mk (dx d ol n:_) (_:H x=some (.ins cw dx (jN "near" (.ref n) (jN "order" (.ref ol) (jN "numbers" (.ref d) []))))) (_:H d=some (.dK (qaJ ss 0))) (_:H ol=some (.lst (ss.map V.str))) (_:H n=some (.lst (qc5 ns))) (_:WOk ss ns) (_:¬ A x) (_:¬ A d) (_:¬ A ol) (_:¬ A n)
theorem WebP.web{A:Addr->Prop}(h:WebP A cw H x ss ns):WebAt cw H x ss ns:=by
 obtain⟨dx,d,ol,n,h1,a,b,c,e,_⟩:=h;show⟨dx,d,ol,n,h1,a,b,c,e⟩
theorem WebP.keep{A:Addr->Prop}(h:WebP A cw H x ss ns)(k:∀ b o,¬ A b->H b=some o->H' b=some o):WebP A cw H' x ss ns:=by
 obtain⟨dx,d,ol,n,h1,g,i,j,l,a,c,e,f⟩:=h;show⟨dx,d,ol,n,k _ _ a h1,k _ _ c g,k _ _ e i,k _ _ f j,l,a,c,e,f⟩
theorem qcd:∀(ss:LS) (i:Nat),(qaJ ss i).map (fun a=>kV a.1)=ss.map V.str
 | [],_=>rfl
 | s::r,i=>congrArg (V.str s::·) (qcd r (i+1))
inductive spNear(vs:List V)(H:Hp)(Q:VK)(E:XK):Prop|mk (d l:Addr) (ss:LS) (ts:LI) (tps:LP) (_:vs=[.ref d,.ref l]) (_:H d=some (.dK (qaJ ss 0))) (_:ss.length<=14) (_:ss.Nodup) (_:(∀ s∈ss,jF s=true)) (_:PL H l ts tps) (_:TGo ss tps) (_:∀ n ns H',L2.Same H H'->H n=none->H' n=some (.lst (qc5 ns))->qbh ss ns tps->Q (.ref n) H')
theorem ok_near(F:Fun K "near_of" "near_of" qal f fd)(T:Txt K mg cc cw)(Ki:DefOk P w K mg base CX0 3 "are_two_places" ["numbers","thing"] spTwo)(Ky:DefOk P w K mg base CX0 1 "has_bit" ["bits","number"] spBit) :
  FnOk P w K mg base CX0 4 f fd ["numbers","ties"] spNear:=by
 show F.ok Kv fun _ _ _ _ H vs Q E hr h=>?_
 .obtain⟨d,l,ss,ts,tps,rfl,W,ak,af,G,⟨hl,D⟩,hg,q⟩:=h;have j:=zT hr;have L:=D.len;have al:=hg.few;show⟨_,(qb (qG (qO (qN (qj (qdM (K:=K) rfl) rfl T.b_isinstance YC (qa (pv 1) (qa (qV (qa (jt (v:=.ty "list") rfl T.b_list xv rfl) (qa (jt (v:=.ty "tuple") rfl T.b_tuple kj rfl) qd))) qd))))) (qf jG) qv)
 (qb (qG (qk qbp (qj (jw (K:=K) rfl) rfl T.b_len Yy (qa (pv 1) qd)) (qaI rfl T.g_MOST_TIES) (qx _)) (qf jG) qv)
 (qb (qp (i:=2) Kv.nd rfl (yI rfl) (qA qeq (qK (qa qe qd)) (qj (jw (K:=K) rfl) rfl T.b_len Yy (qa (pv 0) qd))))
 (qb (qU yW rfl (qM (K:=K) rfl (pv 1)) (qu (i:=3) Kv.nd rfl (yI rfl))
 (qb (qG (qO (qN (qo Ki (hmR hr) qy (qa (pv 0) (qa (pv 3) qd))))) (qf jG) qv)
 (qb (qp (i:=4) Kv.nd rfl (yI rfl) (qq (qr (K:=K) rfl j) (pv 0) (qq (qr (K:=K) rfl j) (pv 3) qe (fun _ _=>rfl)) (fun _ _=>rfl)))
 (qb (qp (i:=5) Kv.nd rfl (yI rfl) (qq (qr (K:=K) rfl j) (pv 0) (qq (qr (K:=K) rfl j) (pv 3) qe (fun _ _=>rfl)) (fun _ _=>rfl)))
 (qb (qG (qN (qo Ky (hmR hr) qy (qa (qq (qr (K:=K) rfl j) (pv 2) (pv 4) (fun _ _=>rfl)) (qa (pv 5) qd)))) (qf jG) qv)
 (qb (qT (qA qfh (qq (qr (K:=K) rfl j) (pv 2) (pv 4) (fun _ _=>rfl)) (qA qen qe (pv 5))) (jp (pv 2) (pv 4) (jq j)))
 (qf (qT (qA qfh (qq (qr (K:=K) rfl j) (pv 2) (pv 5) (fun _ _=>rfl)) (qA qen qe (pv 4))) (jp (pv 2) (pv 5) (jq j))))))))))
 (qf (qt (pv 2))))))),?_⟩
  apply⟨by show 2<=sizeLine;decide,fun g aa=>?_⟩;have s0:=qF (Sr H) (o:=.tup [.ty "list",.ty "tuple"]) aa;apply qdX (s0 _ _ hl) qc ?_;apply yq ?_;apply ze (s0 _ _ hl) ?_;rw[ya];apply qE (fun h=>by have:=yk h;lk) fun _=>?_;apply⟨by show 1<=sizeLine;decide,fun z ai=>?_⟩;have s1:=qF s0 (o:=.lst [.int 0]) ai;apply .inr ⟨_,s1 _ _ W,?_⟩;ext;rw[zr];show⟨z,_,_,rfl,rfl,qc,by lk,by lk,by show 1*_<=sizeLine;rw[Yj];show yP (qi (by lk)),fun n hn=>?_⟩;rw[Yj,natV_zero];have s2:=qF s1 (o:=.lst (qc5 (List.replicate ss.length 0))) hn;have n0:H n=none:=s1.free hn;apply .inl ⟨⟨_,SqL.of (s2 _ _ hl)⟩,qR (K:=K) (fun i Z H'=>∃ v3 v4 v5 ns,Z=[some (.ref d),some (.ref l),some (.ref n),v3,v4,v5]/\L2.Same H H'/\H' n=some (.lst (qc5 ns))/\qbh ss ns (tps.take i))
   ⟨none,none,none,_,rfl,s2,qc,bits_zero⟩ (fun i Z H' _ I=>by obtain⟨_,_,_,_,_,z,_⟩:=I;show SqL.of (z _ _ hl)) (fun i y Z H' hy I=>?_) fun Z H' I=>?_⟩
  .obtain⟨v3,v4,v5,ns,rfl,N,A,a⟩:=I;rw[yd] at hy;obtain⟨t,ht,rfl⟩:=yn.mp hy;have ac:i<ts.length:=(yc.mp ht).1;obtain⟨⟨p,r⟩,u⟩:∃ ab,tps[i]?=some ab:=⟨_,yb (by rw[<- L];show ac)⟩;have U:=D.at_ i t _ ht u;obtain⟨X,Y,c⟩:=hg.inn _ (ye u);dsimp only at U X Y c;have J:tps.take (i+1)=tps.take i++[(p,r)]:=by rw[yR,u];rfl
   have ag:¬ ((p,r)∈tps.take i\/(r,p)∈tps.take i):=fun z=>by
    have h3:(tps.take (i+1)).Pairwise UN:=hg.un.sublist (km _ _);rw[J] at h3;have h4:=(List.pairwise_append.mp h3).2.2;rcases z with z | z
    .show(h4 _ z (p,r) (by simp)).1 rfl
    .show(h4 _ z (p,r) (by simp)).2 rfl
   obtain⟨C,ad,b,R⟩:=zg (i:=0) X;obtain⟨B,ae,s,S⟩:=zg (i:=0) Y;rw[xq] at R S;have aj:C≠B:=fun e=>by rw[e,s] at b;cases b;show c rfl
   have m:C<ns.length:=by rw[a.1];show ad
   have M:B<ns.length:=by rw[a.1];show ae
   apply⟨d,t,ss,p,r,rfl,N _ _ W,N _ _ U,G _ X,G _ Y,X,Y,c,fun H1 t1=>?_⟩;have O:=N.trans t1;have x:=t1 _ _ A;apply yq ?_;apply .inl (zo (O _ _ U) rfl ?_);show .inr ⟨d,.int C,rfl,?_,?_⟩
   .have:=DGet.k (k:=Sum.inr p) (O _ _ W);rw[R] at this;show this
   apply .inl (zo (O _ _ U) rfl ?_);show .inr ⟨d,.int B,rfl,?_,?_⟩
   .have:=DGet.k (k:=Sum.inr r) (O _ _ W);rw[S] at this;show this
   apply .inl (zd x (qw (qaK m)) ?_);apply⟨_,_,rfl,by lk,?_⟩;rw[qcA,a.2.2 C B p r b s,yl ag];apply yq ?_;apply .inl (zd x (qw (qaK m)) ?_);apply vI ⟨by lk,by lk,by decide⟩ ?_;ext;rw[qeM];show .inl (qeh x (qdY (by unfold qc5;rw[ya];show m)) ?_);rw[qc6];ext;have e2:(ns.set C (ns.getD C 0 ||| 2 ^ B)).getD B 0=ns.getD B 0:=by rw[qam m,yB aj]
   show .inl (zd qc (qw (qaK (by simpa using M))) ?_);apply vI ⟨by lk,by lk,by decide⟩ ?_;ext;rw[qeM,e2];show .inl (qeh qc (qdY (by unfold qc5;rw[ya];simpa using M)) ?_);rw[qc6];show⟨_,_,_,_,rfl,qdW (qdW O n0) n0,qc,?_⟩;rw[J];show bits_step a af b s c
  .obtain⟨v3,v4,v5,ns,rfl,N,A,a⟩:=I;ext;rw[ya,L,Yc] at a;show q n _ H' N n0 A a
inductive spWeb(cw:Addr)(vs:List V)(H:Hp)(Q:VK)(E:XK):Prop|mk (x dx a l:Addr) (ss:LS) (ts:LI) (tps:LP) (_:vs=[.ref x,.ref a,.ref l]) (_:H x=some (.ins cw dx [])) (_:H a=some (.lst (ss.map V.str))) (_:ss.length<=14) (_:ss.Nodup) (_:(∀ s∈ss,jF s=true)) (_:PL H l ts tps) (_:TGo ss tps) (_:∀ ns H',But x H H'->WebN H cw H' x ss ns->qbh ss ns tps->Q .non H')
theorem PL.but{dx:Addr}{fs:List (Str×V)}(h:PL H l ts tps)(a:H x=some (.ins C dx fs))(b:But x H H'):PL H' l ts tps:=
 ⟨b _ _ (jD h.1 a (by intro z;cases z)) h.1,h.2.mono fun t ab e=>b _ _ (jD e a (by intro z;cases z)) e⟩
theorem ok_web(F:Fun K "__init__" "Web.__init__" zM f fd)(T:Txt K mg cc cw)(uc:DefOk P w K mg base CX0 4 "numbers_of" ["names"] spNums)(uh:DefOk P w K mg base CX0 4 "near_of" ["numbers","ties"] spNear) :
  FnOk P w K mg base CX0 5 f fd ["self","names","ties"] (spWeb cw):=by
 show F.ok ue fun _ _ _ _ H vs Q E M h=>?_
 .obtain⟨x,dx,a,l,ss,ts,tps,rfl,W,ha,j,N,p,L,hg,q⟩:=h;have hu:=zT M;show⟨_,(qb (qbr (K:=K) rfl (pv 0) (qo uc (hmR M) qy (qa (pv 1) qd)) rfl)
 (qb (qbr (K:=K) rfl (pv 0) (je (zW (K:=K) rfl rfl) rfl T.b_list xv (qa (zF (K:=K) rfl (pv 0) rfl) qd)) rfl)
 (qf (qbr (K:=K) rfl (pv 0) (qo uh (hmR M) qy (qa (zF (K:=K) rfl (pv 0) rfl) (qa (pv 2) qd))) rfl)))),?_⟩
  apply⟨a,ss,rfl,ha,j,N,p,fun d H1 X J S=>?_⟩;have Y:=(But.refl x H).same X;have y:=X _ _ W;have ndx:d≠x:=jD S y (by intro z;cases z);apply .inl ⟨x,cw,dx,[],rfl,y,T.wcl,T.wn,by decide,?_⟩;have I:=Y.put (o:=.ins cw dx (jN "numbers" (.ref d) []));have g:upd H1 x (.ins cw dx (jN "numbers" (.ref d) [])) d=some (.dK (qaJ ss 0)):=by rw[qh ndx];show S
  have c:upd H1 x (.ins cw dx (jN "numbers" (.ref d) [])) x=_:=qc;generalize upd H1 x (.ins cw dx (jN "numbers" (.ref d) []))=H2 at I g c;apply .inl ⟨x,cw,dx,_,.ref d,rfl,c,T.wcl,T.wn,by rw[qz,yG rfl],?_⟩;apply .inr (.inl ⟨d,_,rfl,g,fun ol r=>?_⟩);rw[qcd];have D:ol≠x:=fun e=>by subst e;rw[c] at r;cases r
  have Z:=I.new (o:=.lst (ss.map V.str)) r
  have v:H ol=none:=by
   cases R:H ol with
   | none=>rfl
   | some o'=>rw[I ol o' D R] at r;cases r
  have O:d≠ol:=qC g r;apply .inl ⟨x,cw,dx,_,rfl,(by rw[qh D.symm];show c),T.wcl,T.wo,xw (jQ _ _ _) (by decide),?_⟩;have C:=Z.put (o:=.ins cw dx (jN "order" (.ref ol) (jN "numbers" (.ref d) [])));have m:upd (upd H2 ol (.lst (ss.map V.str))) x (.ins cw dx (jN "order" (.ref ol) (jN "numbers" (.ref d) []))) d=some (.dK (qaJ ss 0)):=by rw[qh ndx,qh O];show g
  have u:upd (upd H2 ol (.lst (ss.map V.str))) x (.ins cw dx (jN "order" (.ref ol) (jN "numbers" (.ref d) []))) ol=some (.lst (ss.map V.str)):=by rw[qh D];show qc
  have i:upd (upd H2 ol (.lst (ss.map V.str))) x (.ins cw dx (jN "order" (.ref ol) (jN "numbers" (.ref d) []))) x=_:=qc;generalize upd (upd H2 ol (.lst (ss.map V.str))) x (.ins cw dx (jN "order" (.ref ol) (jN "numbers" (.ref d) [])))=H3 at C m u i;apply .inl ⟨x,cw,dx,_,.ref d,rfl,i,T.wcl,T.wn,by rw[qz,yB (by room),qz,yG rfl],?_⟩;apply⟨d,l,ss,ts,tps,rfl,m,j,N,p,L.but W C,hg,fun n ns H4 G s U b=>?_⟩;have A:=G _ _ i;have B:n≠x:=jD U A (by intro z;cases z);apply .inl ⟨x,cw,dx,_,rfl,A,T.wcl,T.wr,xw (jQ _ _ _) (xw (kC (jQ _ _ _)) (by decide)),?_⟩
  have t:H n=none:=by
   cases R:H n with
   | none=>rfl
   | some o'=>rw[C n o' B R] at s;cases s
  show q ns _ (C.same G).put ⟨dx,d,ol,n,qc,by rw[qh ndx];show G _ _ m,by rw[qh D];show G _ _ u,by rw[qh B];show U,⟨b.1,j,N,b.2.1,p⟩,J,v,t⟩ b
theorem K9:FnScope ["self"] ["self"] (qg j4):=fS
theorem KY:FnScope ["self","thing"] ["self","thing"] (qg jx):=fS
theorem KZ:FnScope ["self","place"] ["self","place"] (qg jy):=fS
theorem ua:FnScope ["self","place"] ["self","place"] (qg j5):=fS
theorem KJ:FnScope ["self","place"] ["self","place"] (qg qY):=fS
theorem KS:FnScope ["self","one","other","bits"] ["self","one","other"] (qg zN):=fS
theorem K3:FnScope ["self","bits"] ["self","bits"] (qg jh):=fS
theorem zh{n:V}:(jN "near" n (jN "order" ol (jN "numbers" d []))).lookup ("numbers":Str)=some d:=by
 rw[qz,yB (by room),qz,yB (by room),qz,yG rfl]
theorem qc7{n:V}:(jN "near" n (jN "order" ol (jN "numbers" d []))).lookup ("order":Str)=some ol:=by
 rw[qz,yB (by room),qz,yG rfl]
theorem lk_near{n:V}:(jN "near" n (jN "order" ol (jN "numbers" d []))).lookup ("near":Str)=some n:=by
 rw[qz,yG rfl]
theorem qan{f:Str}{n:V}(h:(f=="near"||f=="order"||f=="numbers")=false):(jN "near" n (jN "order" ol (jN "numbers" d []))).lookup f=none:=by
 simp only[Bool.or_eq_false_iff,Yr] at h;rw[qz,yB h.1.1,qz,yB h.1.2,qz,yB h.2];rfl
noncomputable def inB:LS->Nat->Nat->LS
 | [],_,_=>[]
 | s::r,i,b=>if b.testBit i=true then s::inB r (i+1) b else inB r (i+1) b
theorem qaL(y:Str)(b:Nat):∀(l:LS) (k:Nat),inB (l++[y]) k b=inB l k b++(if b.testBit (k+l.length)=true then [y] else [])
 | [],k=>by simp[inB]
 | s::r,k=>by
  have a:=qaL y b r (k+1);have e:k+1+r.length=k+(s::r).length:=by simp;lk
  rw[e] at a;simp only[XE,inB,a];split<;>simp
theorem qbv(b:Nat):∀(l:LS) (k:Nat),(inB l k b).length<=l.length
 | [],_=>yh _
 | s::r,k=>by
  have a:=qbv b r (k+1);simp only[inB];split
  .simp;lk
  .simp;lk
inductive spHas(cw:Addr)(vs:List V)(H:Hp)(Q:VK)(E:XK):Prop|mk (x:Addr) (ss:LS) (ns:LN) (y:Str) (_:vs=[.ref x,.str y]) (_:WebAt cw H x ss ns) (_:y∈ss) (_:∀ H',L2.Same H H'->Q (.bl true) H')
inductive spNum(cw:Addr)(vs:List V)(H:Hp)(Q:VK)(E:XK):Prop|mk (x:Addr) (ss:LS) (ns:LN) (y:Str) (j:Nat) (_:vs=[.ref x,.str y]) (_:WebAt cw H x ss ns) (_:ss[j]?=some y) (_:∀ H',L2.Same H H'->Q (.int (j:Nat)) H')
inductive spBB(cw:Addr)(vs:List V)(H:Hp)(Q:VK)(E:XK):Prop|mk (x:Addr) (ss:LS) (ns:LN) (y:Str) (j:Nat) (_:vs=[.ref x,.str y]) (_:WebAt cw H x ss ns) (_:ss[j]?=some y) (_:∀ H',L2.Same H H'->Q (.int (ns.getD j 0:Nat)) H')
inductive spNIn(cw:Addr)(vs:List V)(H:Hp)(Q:VK)(E:XK):Prop|mk (x:Addr) (ss:LS) (ns:LN) (b:Nat) (_:vs=[.ref x,.int b]) (_:WebAt cw H x ss ns) (_:∀ l,H l=none->Q (.ref l) (upd H l (.lst ((inB ss 0 b).map V.str))))
inductive spBs(cw:Addr)(vs:List V)(H:Hp)(Q:VK)(E:XK):Prop|mk (x:Addr) (ss:LS) (ns:LN) (y:Str) (j:Nat) (_:vs=[.ref x,.str y]) (_:WebAt cw H x ss ns) (_:ss[j]?=some y) (_:∀ H',L2.Same H H'->∀ l,H' l=none->Q (.ref l) (upd H' l (.lst ((inB ss 0 (ns.getD j 0)).map V.str))))
inductive spTied(cw:Addr)(vs:List V)(H:Hp)(Q:VK)(E:XK):Prop|mk (x:Addr) (ss:LS) (ns:LN) (y z:Str) (j i:Nat) (_:vs=[.ref x,.str y,.str z]) (_:WebAt cw H x ss ns) (_:ss[j]?=some y) (_:ss[i]?=some z) (_:∀ H',L2.Same H H'->Q (.bl ((ns.getD j 0).testBit i)) H')
inductive spPls(cw:Addr)(vs:List V)(H:Hp)(Q:VK)(E:XK):Prop|mk (x:Addr) (ss:LS) (ns:LN) (_:vs=[.ref x]) (_:WebAt cw H x ss ns) (_:∀ l,H l=none->Q (.ref l) (upd H l (.lst (ss.map V.str))))
theorem ok_has(F:Fun K "has_place" "Web.has_place" jx f fd)(T:Txt K mg cc cw)(b:DefOk P w K mg base CX0 2 "is_place" ["numbers","thing"] spPlace):FnOk P w K mg base CX0 3 f fd ["self","thing"] (spHas cw):=by
 show F.ok KY fun _ _ _ _ H vs Q E e h=>?_
 .obtain⟨x,ss,ns,y,rfl,⟨dx,d,ol,n,g,c,j,i,hw⟩,a,q⟩:=h;show⟨_,(qf (qt (qo b (hmR e) qy (qa (zF (K:=K) rfl (pv 0) rfl) (qa (pv 1) qd))))),?_⟩;apply .inl ⟨x,cw,dx,_,.ref d,rfl,g,T.wcl,T.wn,zh,?_⟩;apply⟨d,ss,y,rfl,c,hw.nm _ a,a,q⟩
theorem ok_num(F:Fun K "number_of" "Web.number_of" jy f fd)(T:Txt K mg cc cw)(o:MethOk P w K mg base CX0 3 cw "has_place" ["self","thing"] (spHas cw)):FnOk P w K mg base CX0 4 f fd ["self","place"] (spNum cw):=by
 show F.ok KZ fun _ _ _ _ H vs Q E e h=>?_
 .obtain⟨x,ss,ns,y,j,rfl,c,b,q⟩:=h;obtain⟨dx,d,ol,n,g,r,v,u,hw⟩:=id c;have l:=ye b;have s:=zT e;show⟨_,(qb (qG (qO (qN (qX o (hmR e) (pv 0) (qa (pv 1) qd)))) (qf jG) qv)
 (qf (qt (qq (qr (K:=K) rfl s) (zF (K:=K) rfl (pv 0) rfl) (pv 1) (fun _ _=>rfl))))),?_⟩
  apply⟨x,dx,_,rfl,g,qan (by room),?_⟩;apply⟨x,ss,ns,y,rfl,c,l,fun H1 a=>?_⟩;apply yq ?_;obtain⟨i,t,p,m⟩:=zg (i:=0) l;rw[xq,jK hw.nd p b] at m;apply .inl ⟨x,cw,dx,_,.ref d,rfl,a _ _ g,T.wcl,T.wn,zh,?_⟩;apply .inr ⟨d,.int j,rfl,?_,q H1 a⟩;have:=DGet.k (k:=Sum.inr y) (a _ _ r);rw[m] at this;show this
theorem ok_bb(F:Fun K "bits_beside" "Web.bits_beside" qY f fd)(T:Txt K mg cc cw)(i:MethOk P w K mg base CX0 4 cw "number_of" ["self","place"] (spNum cw)):FnOk P w K mg base CX0 5 f fd ["self","place"] (spBB cw):=by
 show F.ok KJ fun _ _ _ _ H vs Q E c h=>?_
 .obtain⟨x,ss,ns,y,j,rfl,b,a,q⟩:=h;obtain⟨dx,d,ol,n,e,o,p,l,hw⟩:=id b;have m:=zT c;show⟨_,(qf (qt (qq (qr (K:=K) rfl m) (zF (K:=K) rfl (pv 0) rfl) (qX i (hmR c) (pv 0) (qa (pv 1) qd)) (fun _ _=>rfl)))),?_⟩;apply .inl ⟨x,cw,dx,_,.ref n,rfl,e,T.wcl,T.wr,lk_near,?_⟩;apply⟨x,dx,_,rfl,e,qan (by room),?_⟩;apply⟨x,ss,ns,y,j,rfl,b,a,fun H1 g=>?_⟩;show .inl (zd (g _ _ l) (qw (qaK (by rw[hw.len];show(yc.mp a).1))) (q H1 g))
theorem ok_nin(F:Fun K "names_in" "Web.names_in" jh f fd)(T:Txt K mg cc cw)(B:DefOk P w K mg base CX0 1 "has_bit" ["bits","number"] spBit):FnOk P w K mg base CX0 2 f fd ["self","bits"] (spNIn cw):=by
 show F.ok K3 fun _ _ _ _ H vs Q E v h=>?_
 .obtain⟨x,ss,ns,b,rfl,⟨dx,d,ol,n,z,G,u,M,hw⟩,q⟩:=h;have J:=zT v;show⟨_,(qf (qt (j7 (sc:=qg jh) (XN:=["self","bits"]) ["name","bits","self"] 1 [1,0] rfl rfl rfl (by room) rfl (by room)
  (qM (K:=K) rfl (zF (K:=K) rfl (pv 0) rfl)) (fun _ _ _ _=>(qu (i:=0) (show(["name","bits","self"]:LS).Nodup by room) rfl (yI rfl))) jc
  (fun _ _ _ _=>(qah (qN (qo B (hmR v) qy (qa (pv 1) (qa (qq (qr (K:=K) rfl J) (zF (K:=K) rfl (pv 2) rfl) (pv 0) (fun _ _=>rfl)) qd))))))
  (fun _ _ _ _=>(pv 0))))),?_⟩
  apply .inl ⟨x,cw,dx,_,.ref ol,rfl,z,T.wcl,T.wo,qc7,?_⟩;show .inl ⟨⟨_,SqL.of u⟩,jJ (K:=K) (fun i m H'=>H'=H/\m=(inB (ss.take i) 0 b).map V.str) ⟨rfl,by simp[inB]⟩ (fun i m H' _ e=>by rw[e.1];show SqL.of u) (fun i y m H' s e=>?_) fun m H' e=>?_⟩
  .obtain⟨rfl,rfl⟩:=e;have I:i<ss.length:=by simpa using(yc.mp s).1
   have c:ss[i]?=some ss[i]:=yb I;generalize ss[i]=t at c;have C:y=.str t:=by rw[yd,c] at s;cases s;rfl
   subst C;obtain⟨j,L,D,A⟩:=zg (i:=0) (ye c);rw[xq] at A;have r:j=i:=jK hw.nd D c;subst r;have g:ss.take (j+1)=ss.take j++[t]:=by rw[yR,c];rfl
   have a:(ss.take j).length=j:=by rw[yL];lk
   apply .inl ⟨x,cw,dx,_,.ref d,rfl,z,T.wcl,T.wn,zh,?_⟩;apply .inr ⟨d,.int j,rfl,?_,?_⟩
   .have:=DGet.k (k:=Sum.inr t) G;rw[A] at this;show this
   apply⟨_,_,rfl,by lk,?_⟩;rw[qcA];ext
   have p:((inB (ss.take j) 0 b).map V.str).length<sizeLine:=by
    rw[ya];show qi (yi (qbv _ _ _) (by rw[a];have:=hw.few;lk))
   show qE (fun hb=>?_) fun hb=>?_
   .ext;show⟨p,rfl,?_⟩;rw[g,qaL,a,xq,yG hb];simp
   .show⟨rfl,?_⟩;rw[g,qaL,a,xq,yB hb];simp
  .obtain⟨rfl,rfl⟩:=e;have o:ss.take (ss.map V.str).length=ss:=by rw[ya,Yc]
   rw[o];show⟨?_,fun l hl=>q l hl⟩;rw[ya];show yP (qi (yi (qbv _ _ _) (by have:=hw.few;lk)))
theorem ok_bs(F:Fun K "beside" "Web.beside" j5 f fd)(T:Txt K mg cc cw)(i:MethOk P w K mg base CX0 5 cw "bits_beside" ["self","place"] (spBB cw))(g:MethOk P w K mg base CX0 2 cw "names_in" ["self","bits"] (spNIn cw)):FnOk P w K mg base CX0 6 f fd ["self","place"] (spBs cw):=by
 show F.ok ua fun _ _ _ _ H vs Q E b h=>?_
 .obtain⟨x,ss,ns,y,j,rfl,a,l,q⟩:=h;obtain⟨dx,d,ol,n,c,_⟩:=id a;show⟨_,(qf (qt (qX g (hmR b) (pv 0) (qa (qX i (hmR b) (pv 0) (qa (pv 1) qd)) qd)))),?_⟩;apply⟨x,dx,_,rfl,c,qan (by room),?_⟩;apply⟨x,dx,_,rfl,c,qan (by room),?_⟩;apply⟨x,ss,ns,y,j,rfl,a,l,fun H1 e=>?_⟩;apply⟨x,ss,ns,_,rfl,a.same e,q H1 e⟩
theorem ok_tied(F:Fun K "tied" "Web.tied" zN f fd)(T:Txt K mg cc cw)(l:MethOk P w K mg base CX0 5 cw "bits_beside" ["self","place"] (spBB cw))(g:MethOk P w K mg base CX0 4 cw "number_of" ["self","place"] (spNum cw))
  (m:DefOk P w K mg base CX0 1 "has_bit" ["bits","number"] spBit):FnOk P w K mg base CX0 6 f fd ["self","one","other"] (spTied cw):=by
 show F.ok KS fun _ _ _ _ H vs Q E b h=>?_
 .obtain⟨x,ss,ns,y,z,j,i,rfl,a,p,o,q⟩:=h;obtain⟨dx,d,ol,n,e,_⟩:=id a;show⟨_,(qb (qp (i:=3) KS.nd rfl (yI rfl) (qX l (hmR b) (pv 0) (qa (pv 1) qd)))
 (qf (qt (qo m (hmR b) qy (qa (pv 3) (qa (qX g (hmR b) (pv 0) (qa (pv 2) qd)) qd)))))),?_⟩
  apply⟨x,dx,_,rfl,e,qan (by room),?_⟩;apply⟨x,ss,ns,y,j,rfl,a,p,fun H1 c=>?_⟩;apply⟨x,dx,_,rfl,c _ _ e,qan (by room),?_⟩;apply⟨x,ss,ns,z,i,rfl,a.same c,o,fun H2 r=>?_⟩;apply⟨_,_,rfl,by lk,?_⟩;rw[qcA];show q H2 (c.trans r)
theorem ok_pls(F:Fun K "places" "Web.places" j4 f fd)(T:Txt K mg cc cw):FnOk P w K mg base CX0 1 f fd ["self"] (spPls cw):=by
 show F.ok K9 fun _ _ _ _ H vs Q E g h=>?_
 .obtain⟨x,ss,ns,rfl,⟨dx,d,ol,n,b,c,a,e,hw⟩,q⟩:=h;show⟨_,(qf (qt (je (zW (K:=K) rfl rfl) rfl T.b_list xv (qa (zF (K:=K) rfl (pv 0) rfl) qd)))),?_⟩;apply .inl ⟨x,cw,dx,_,.ref ol,rfl,b,T.wcl,T.wo,qc7,?_⟩;apply .inl ⟨ol,_,rfl,.inl (SqL.of a),q⟩
theorem idx_at(b:ss.Nodup)(h:ss[i]?=some s):ss.idxOf s=i:=by
 have a:s∈ss:=ye h;have hl:ss.idxOf s<ss.length:=List.idxOf_lt_length_of_mem a;show jK b (by rw[yb hl,ki]) h
theorem inB_filter(f:ss.Nodup)(b:Nat):inB ss 0 b=ss.filter fun s=>b.testBit (ss.idxOf s):=by
 have e:∀ k,k<=ss.length->inB (ss.take k) 0 b=(ss.take k).filter fun s=>b.testBit (ss.idxOf s):=fun k=>by
  induction k with
  | zero=>intro _;simp[inB]
  | succ k ih =>
   intro h;have a:ss[k]?=some ss[k]:=yb (by lk);generalize ss[k]=g at a;have d:ss.take (k+1)=ss.take k++[g]:=by rw[yR,a];rfl
   have c:(ss.take k).length=k:=by rw[yL];lk
   rw[d,qaL,xQ,ih (by lk),c,xq]
   congr 1
   rw[YM,Xj,idx_at f a]
 have:=e ss.length (yh _)
 rwa[Yc] at this
noncomputable def tRow(ss:LS)(ns:LN)(i:Nat):LP:=((inB ss 0 (ns.getD i 0)).filter fun o=>decide (i<ss.idxOf o)).map fun o=>(ss.getD i "",o)
noncomputable def qeN(ss:LS)(ns:LN)(i:Nat):LP:=(List.range i).flatMap (tRow ss ns)
def qf9(H H':Hp)(l:Addr)(t:Addr)(ab:Str×Str):Prop:=H t=none/\t≠l/\H' t=some (.tup [.str ab.1,.str ab.2])
inductive spTs(cw:Addr)(vs:List V)(H:Hp)(Q:VK)(E:XK):Prop|mk (x:Addr) (ss:LS) (ns:LN) (_:vs=[.ref x]) (_:WebAt cw H x ss ns) (_:∀(l:Addr) (ts:LI) (H':Hp),L2.Same H H'->H l=none->H' l=some (.lst (ts.map V.ref))->ts.length<=196->All2 (qf9 H H' l) ts (qeN ss ns ss.length)->Q (.ref l) H')
def Box(H:Hp)(p:Addr):Prop:=∃ a b c:Int,H p=some (.lst [.int a,.int b,.int c])
def BB(p:Addr)(H H':Hp):Prop:=(∀ b o,b≠p->H b=some o->H' b=some o)/\Box H' p
inductive spCell(K:W.Frag)(vs:List V)(H:Hp)(Q:VK)(E:XK):Prop|mk (a:Addr) (ns:LQ) (k:Int) (_:vs=[.ref a,.int k]) (_:SqL K H a (ns.map V.int)) (_:0<=k) (_:k<1000) (_:∀ i:Int,Q (.int i) H)
noncomputable def NewH(H H':Hp):Hp:=fun a=>match H a with | none=>H' a | some _=>none
theorem ji:∀{l m:LS},l.Nodup->(∀ x∈l,x∈m)->l.length<=m.length
 | [],_,_,_=>yU _
 | x::r,m,hn,h=>by
  obtain⟨h1,c⟩:=yo.mp hn;have a:=h x yy;have d:=ji (l:=r) (m:=m.erase x) c fun y b=>(List.mem_erase_of_ne (fun e=>h1 (by rw[<- e];show b))).mpr (h y (yu _ b));rw[List.length_erase_of_mem a] at d;have:0<m.length:=List.length_pos_of_mem a;simp only[yC];lk
theorem inV_str(c:Str)(ss:LS):inV (.str c) (ss.map V.str)=decide (c∈ss):=by
 unfold inV;rw[List.any_map,xD,xK,xP];constructor
 .rintro ⟨y,a,e⟩;have:y=c:=eq_of_beq e;rw[<- this];show a
 .intro h;show⟨c,h,xu c⟩
inductive spFresh(vs:List V)(H:Hp)(Q:VK)(E:XK):Prop|mk (l:Addr) (ss:LS) (_:vs=[.ref l]) (_:H l=some (.lst (ss.map V.str))) (_:ss.length<=14) (_:∀(x:Str) (H':Hp),L2.Same H H'->jF x=true->x∉ss->Q (.str x) H')
noncomputable def signs:LS:=("abcdefghijklmno":Str).cps.toList.map fun c=>⟨#[c]⟩
theorem slice_ix(k n:Nat):Builtin.Str.strSliceIndices none (some (k:Int)) 1 n=List.range (min k n):=by
 unfold Builtin.Str.strSliceIndices sliceRange;simp only[show(1:Int)>0 by decide,Xi];rw[yB (show ¬ ((k:Int)<0) by lk)];have a:max 0 (min (k:Int) n)=((min k n:Nat):Int):=by lk
 rw[a];have b:(fun(j:Nat)=>((0:Int)+1*(j:Int)).toNat)=id:=by funext j;show _=j;lk
 rw[b,List.map_id]
 congr 1
 split
 .rw [kW];lk
 .omega
theorem qdZ(a:Array Nat):∀ m,m<=a.size->(List.range m).filterMap (a[·]?)=a.toList.take m
 | 0,_=>rfl
 | m+1,h=>by
  rw[xR,List.filterMap_append,qdZ a m (by lk),yR]
  congr 1
  have e:a[m]?=some a[m]:=xB (by lk);have b:a.toList[m]?=some a[m]:=by rw[xV];show e
  rw[b,YO,e];rfl
theorem qbj(z:Str)(k:Nat):(Txt.slice z none (some (k:Int))).cps.toList=z.cps.toList.take k:=by
 unfold Txt.slice;rw[slice_ix];have b:z.length=z.cps.toList.length:=by simp[Str.length]
 split
 .rename_i h
  rw[Yk] at h;have:min k z.length=z.length:=by simpa using h
  rw[YU (by lk)]
 .show(List.filterMap _ _).toArray.toList=_;rw[qdZ z.cps (min k z.length) (XD _ _)];show z.cps.toList.take (min k z.length)=_;by_cases a:k<=z.length
  .rw [Nat.min_eq_left a]
  .rw [Nat.min_eq_right (by lk),YU (by lk),YU (by lk)]
theorem qao(a b:Str):(a++b).cps.toList=a.cps.toList++b.cps.toList:=by
 show(a.cps++b.cps).toList=_;show Array.toList_append
theorem qc8:∀{xs:LS},(∀ x∈xs,x.cps.toList.all sg=true)->(Str.join "" xs).cps.toList.all sg=true
 | [],_=>rfl
 | [x],h=>h x (by simp)
 | x::y::r,h=>by
  have e:Str.join "" (x::y::r)=x++""++Str.join "" (y::r):=rfl;rw[e,qao,qao,Xk,Xk,h x (by simp),qc8 fun z a=>h z (yu _ a)]
  room
theorem qe4{c:Nat}(h:97<=c)(b:c<=122):sg c=true:=by
 have a:∀ i,i<26->sg (97+i)=true:=by room
 have:=a (c-97) (by lk)
 rwa[show 97+(c-97)=c by lk] at this
theorem join_len{xs:LS}(h:∀ x∈xs,x.length=1):(Txt.join "" xs).length=xs.length:=by
 have e:Txt.join "" xs=Str.join "" xs:=yY.mp (join_plain_closes "" xs);rw[e]
 cases xs with
 | nil=>rfl
 | cons a l =>
  rw[len_join_cons]
  have b:∀ l:LS,(∀ x∈l,x.length=1)->(l.map (·.length)).sum=l.length:=by
   intro l
   induction l with
   | nil=>intro _;rfl
   | cons a l ih =>
    intro h;rw[yJ,Yi,h a yy,ih fun x c=>h x (yu _ c),yC];lk
  have z:("":Str).length=0:=by room
  rw[b _ h,z];lk
theorem qc9{xs:LS}(h:∀ x∈xs,x.length=1):(xs.map (·.length)).sum=xs.length:=by
 induction xs with
 | nil=>rfl
 | cons a l ih =>
  rw[yJ,Yi,h a yy,ih fun x b=>h x (yu _ b),yC];lk
def Signs(p:Addr)(H:Hp)(i:Nat)(a:List V)(H':Hp):Prop:=BB p H H'/\∃ xs:LS,a=xs.map V.str/\xs.length=i/\∀ x∈xs,x.length=1/\x.cps.toList.all sg=true
noncomputable def L26:Str:="abcdefghijklmnopqrstuvwxyz"
theorem qd0{i:Int}(b:0<=i)(h1:i<26):atI L26.cps.toList i=some (97+i.toNat):=by
 obtain⟨n,rfl⟩:=Int.eq_ofNat_of_zero_le b;have a:∀ n,n<26->L26.cps.toList[n]?=some (97+n):=by room
 rw[Yj];show qw (a n (by lk))
theorem qda{x:Str}{l:LN}(e:x.cps.toList=l)(h1:1<=l.length)(a:l.length<=6)(h:l.all sg=true):jF x=true:=by
 have hl:x.length=l.length:=by rw[<- e];simp[Str.length]
 unfold jF;rw[yG ⟨by lk,by lk⟩,e];show h
theorem qce(h:∀(i j:Nat) (s:Str),ss[i]?=some s->ss[j]?=some s->i=j):ss.Nodup:=by
 show YZ.mpr fun i j a c b e=>?_;have:=h i j ss[j] (by rw[yb a,e]) (yb c);lk
def NL(p:Addr)(H':Hp)(l:Addr)(ss:LS):Prop:=H' l=some (.lst (ss.map V.str))/\l≠p
structure NOk(ss:LS):Prop where
 few:ss.length<=14
 nd:ss.Nodup
 nm:∀ s∈ss,jF s=true
def PrT(p:Addr)(H:Hp)(t:Addr)(ab:Str×Str):Prop:=t≠p/\H t=some (.tup [.str ab.1,.str ab.2])
def TL(p:Addr)(H:Hp)(l:Addr)(ts:LI)(tps:LP):Prop:=H l=some (.lst (ts.map V.ref))/\l≠p/\All2 (PrT p H) ts tps
theorem qa1(f:α->β):∀(l:List α) (k:Nat),(l.map f).eraseIdx k=(l.eraseIdx k).map f
 | [],_=>rfl
 | _::_,0=>rfl
 | a::r,k+1=>congrArg (f a::·) (qa1 f r k)
theorem All2.erase{R:α->β->Prop}{l:List α}{m:List β}(h:All2 R l m)(k:Nat):All2 R (l.eraseIdx k) (m.eraseIdx k):=by
 show⟨by rw[XS,XS,h.len],fun j a b c hb=>?_⟩;rw[List.getElem?_eraseIdx] at c hb;split at c
 .rename_i hlt
  rw[yG hlt] at hb;show h.at_ j a b c hb
 .rename_i hlt
  rw[yB hlt] at hb;show h.at_ (j+1) a b c hb
structure TOk(ss:LS)(tps:LP):Prop where
 few:tps.length<=30
 ok:∀ ab∈tps,∃ j k:Nat,j<k/\ss[j]?=some ab.1/\ss[k]?=some ab.2
 nd:tps.Nodup
inductive spTies(vs:List V)(H:Hp)(Q:VK)(E:XK):Prop|mk (p n:Addr) (ss:LS) (_:vs=[.ref p,.ref n]) (_:Box H p) (_:NL p H n ss) (_:NOk ss) (_:∀(l:Addr) (ts:LI) (tps:LP) (H':Hp),BB p H H'->H l=none->TL p H' l ts tps->TOk ss tps->Q (.ref l) H')
def Shuf(tps d:LP):Prop:=∃ c,d.Perm c/\All2 (fun a b=>b=a\/b=(a.2,a.1)) tps c
inductive spShuf(vs:List V)(H:Hp)(Q:VK)(E:XK):Prop|mk (p l:Addr) (ts:LI) (tps:LP) (_:vs=[.ref p,.ref l]) (_:Box H p) (_:TL p H l ts tps) (_:tps.length<=30) (_:∀(l':Addr) (us:LI) (ups:LP) (H':Hp),BB p H H'->H l'=none->TL p H' l' us ups->Shuf tps ups->Q (.ref l') H')
theorem qdb{z:Addr}{Q:VK}(hl:H l=some (.lst xs))(a:H z=some (.lst []))(q:Q (.bl (!xs.isEmpty)) H):qeC K true (.ref l) (.ref z) H Q:=by
 cases xs with
 | nil=>show .inr (.inl ⟨l,z,true,1,rfl,rfl,by decide,EqT.lst (n:=0) (e:=fun _=>true) (SqL.of hl) (SqL.of a) rfl fun j x y h=>by(simp at h),q⟩)
 | cons x r=>show .inr (.inl ⟨l,z,false,1,rfl,rfl,by decide,EqT.lstL (SqL.of hl) (SqL.of a) (by simp),q⟩)
theorem pair_eqD{b:Addr}{s' t':Str}(hb:H b=some (.tup [.str s',.str t']))(f:H a=some (.tup [.str s,.str t])):EqD K H 1 (.ref b) (.ref a) (decide ((s',t')=(s,t))):=by
 by_cases e:b=a
 .subst e;rw[hb] at f;cases f;rw[yD rfl];show .self
 .have z:=EqT.tup (K:=K) (H:=H) (n:=0) (e:=fun j=>if j=0 then eqV (.str s') (.str s) else eqV (.str t') (.str t)) (SqT.of hb) (SqT.of f) fun j x y c d=>by
   match j,c,d with
   | 0,c,d=>cases c;cases d;show .flat rfl rfl
   | 1,c,d=>cases c;cases d;show .flat rfl rfl
  have g:((List.range (min [V.str s',V.str t'].length [V.str s,V.str t].length)).all (fun j=>if j=0 then eqV (.str s') (.str s) else eqV (.str t') (.str t))&&[V.str s',V.str t'].length==[V.str s,V.str t].length)=decide ((s',t')=(s,t)):=by
   show((s'==s)&&((t'==t)&&true)&&true)=_;rw[xD];simp
  rw[g] at z;show .deep z e
noncomputable def qdr(H:Hp)(z:V):Option (Str×Str):=match z with
 | .ref t=>(match H t with
  | some (.tup [.str a,.str b])=>some (a,b)
  | _=>none)
 | _=>none
theorem qbw{t:Addr}{a:Str}(h:H t=some (.tup [.str a,.str b])):qdr H (.ref t)=some (a,b):=by
 unfold qdr;dsimp only;rw[h]
theorem any_in(h:All2 (fun t ab=>H t=some (.tup [.str ab.1,.str ab.2])) ts tps)(st:Str×Str):((ts.map V.ref).any fun z=>decide (qdr H z=some st))=decide (st∈tps):=by
 rw[xD,xK,xP];constructor
 .rintro ⟨z,g,e⟩;obtain⟨t,f,rfl⟩:=yQ.mp g;obtain⟨ab,b,r⟩:=h.mem f;have e:=yk e;rw[qbw r] at e;cases e;show b
 .intro d;obtain⟨k,c,e⟩:=List.getElem_of_mem d;have a:k<ts.length:=by rw[h.len];show c
  have r:=h.at_ k ts[k] tps[k] (yb a) (yb c);show⟨.ref ts[k],yQ.mpr ⟨_,XF a,rfl⟩,yD ?_⟩;rw[qbw r,e]
theorem pl_in{Q:VK}(h:PL H l ts tps)(d:H a=some (.tup [.str s,.str t]))(q:Q (.bl (decide ((s,t)∈tps))) H):qft K false (.ref a) (.ref l) H Q:=by
 show .inr (.inr ⟨l,ts.map V.ref,fun z=>decide (qdr H z=some (s,t)),1,rfl,SqL.of h.1,by decide,fun z f=>?_,?_⟩)
 .obtain⟨b,hb,rfl⟩:=yQ.mp f;obtain⟨ab,_,r⟩:=h.2.mem hb;have e:=pair_eqD (K:=K) r d
  have c:decide (qdr H (.ref b)=some (s,t))=decide ((ab.1,ab.2)=(s,t)):=by
   rw[qbw r];apply YS.mpr;rw[Option.some.injEq]
  show EqD K H 1 (.ref b) (.ref a) (decide (qdr H (.ref b)=some (s,t)));rw[c];show e
 .rw [any_in h.2];show q
def Adj(ss:LS)(ns:LN)(tps:LP):Prop:=∀ a b s t,ss[a]?=some s->ss[b]?=some t->((ns.getD a 0).testBit b=true↔((s,t)∈tps\/(t,s)∈tps))
theorem Kl:FnScope ["web","thing","paired","tie"] ["web","thing"] (qg jV):=fS
theorem KH:FnScope ["self","thing"] ["self","thing"] (qg jz):=fS
noncomputable def j8(seen:LS):List (Key×V):=seen.map fun s=>(.inr s,.bl true)
theorem jA(y:Str):∀ seen:LS,(zi (j8 seen) (.inr y:Key)).isSome=decide (y∈seen)
 | []=>rfl
 | s::r=>by
  by_cases e:s=y
  .subst e;show(zi (((.inr s:Key),V.bl true)::j8 r) _).isSome=_;rw[yD (by simp)];simp[zi]
  .show(zi (((.inr s:Key),V.bl true)::j8 r) _).isSome=_;rw[qJ (p:=((.inr s:Key),V.bl true)) (fun z=>e (xY z)),jA y r];apply YS.mpr;simp[Yq e]
theorem zu(h:y∉seen):qab (j8 seen) (.inr y:Key) (.bl true)=j8 (seen++[y]):=by
 have:zi (j8 seen) (.inr y:Key)=none:=by
  have:=jA y seen;rw[yl h] at this;show Option.isNone_iff_eq_none.mp (by rw[<- Option.not_isSome,this];rfl)
 rw[qaH _ this];unfold j8;rw[yE];rfl
noncomputable def qm(qs:LP):LS:=qs.flatMap fun q=>[q.1,q.2]
noncomputable def prK(qs:LP):List (Key×V):=qs.flatMap fun q=>[(.inr q.1,.str q.2),(.inr q.2,.str q.1)]
noncomputable def pt:LP->Str->Option Str
 | [],_=>none
 | q::r,s=>if q.1=s then some q.2 else if q.2=s then some q.1 else pt r s
theorem zH(s:Str):∀ qs,zi (prK qs) (.inr s:Key)=(pt qs s).map V.str
 | []=>rfl
 | q::r=>by
  show zi (((.inr q.1:Key),V.str q.2)::((.inr q.2:Key),V.str q.1)::prK r) _=(pt (q::r) s).map V.str;unfold pt;by_cases h1:q.1=s
  .rw [qS (p:=((.inr q.1:Key),V.str q.2)) (congrArg Sum.inr h1),yG h1];rfl
  .rw [qJ (p:=((.inr q.1:Key),V.str q.2)) (fun z=>h1 (xY z)),yB h1];by_cases a:q.2=s
   .rw [qS (p:=((.inr q.2:Key),V.str q.1)) (congrArg Sum.inr a),yG a];rfl
   .rw [qJ (p:=((.inr q.2:Key),V.str q.1)) (fun z=>a (xY z)),yB a,zH s r]
theorem pt_none:∀{qs:LP},pt qs s=none↔s∉qm qs
 | []=>by simp[pt,qm]
 | q::r=>by
  have e:qm (q::r)=q.1::q.2::qm r:=rfl;rw[e];unfold pt;by_cases h1:q.1=s
  .rw [yG h1];simp[h1]
  .rw [yB h1];by_cases a:q.2=s
   .rw [yG a];simp[a]
   .rw [yB a,pt_none];simp only[yA,kY];show⟨fun z=>⟨Yq h1,Yq a,z⟩,fun z=>z.2.2⟩
structure PGo(ss:LS)(tps qs:LP):Prop where
 inn:∀ q∈qs,(q∈tps\/(q.2,q.1)∈tps)/\q.1∈ss/\q.2∈ss/\q.1≠q.2
 nd:(qm qs).Nodup
 few:qs.length<=30
theorem namesOf_len(qs:LP):(qm qs).length=2*qs.length:=by
 induction qs with
 | nil=>rfl
 | cons q r ih=>show(q.1::q.2::qm r).length=_;simp only[yC];lk
theorem jL(qs:LP)(q:Str×Str):qm (qs++[q])=qm qs++[q.1,q.2]:=by
 unfold qm;rw[Xe];rfl
theorem PGo.new(g:PGo ss tps qs)(h:qs[i]?=some ab):qs.take (i+1)=qs.take i++[ab]/\(qm (qs.take i++[ab])).Nodup/\ab.1∉qm (qs.take i)/\ab.2∉qm (qs.take i):=by
 have b:qs.take (i+1)=qs.take i++[ab]:=by rw[yR,h];rfl
 have a:(qm (qs.take i++[ab])).Nodup:=by
  rw[<- b];have:qm qs=qm (qs.take (i+1))++qm (qs.drop (i+1)):=by unfold qm;rw[<- Xe,xW]
  have e:=g.nd;rw[this] at e;show(yZ.mp e).1
 have c:=a;rw[jL] at c;have d:=(yZ.mp c).2.2;show⟨b,a,fun z=>d _ z ab.1 (by simp) rfl,fun z=>d _ z ab.2 (by simp) rfl⟩
inductive spHt(cw:Addr)(vs:List V)(H:Hp)(Q:VK)(E:XK):Prop|mk (x t:Addr) (ss:LS) (ns:LN) (tps:LP) (ab:Str×Str) (_:vs=[.ref x,.ref t]) (_:WebAt cw H x ss ns) (_:Adj ss ns tps) (_:H t=some (.tup [.str ab.1,.str ab.2])) (_:(ab∈tps\/(ab.2,ab.1)∈tps)) (_:ab.1∈ss) (_:ab.2∈ss) (_:ab.1≠ab.2) (_:∀ H',L2.Same H H'->Q (.bl true) H')
inductive spAp(cw:Addr)(vs:List V)(H:Hp)(Q:VK)(E:XK):Prop|mk (x l:Addr) (ss:LS) (ns:LN) (us:LI) (tps qs:LP) (_:vs=[.ref x,.ref l]) (_:WebAt cw H x ss ns) (_:Adj ss ns tps) (_:PL H l us qs) (_:PGo ss tps qs) (_:∀ H',L2.Same H H'->Q (.bl true) H')
theorem ok_ht(F:Fun K "has_tie" "Web.has_tie" jz f fd)(T:Txt K mg cc cw)(A:DefOk P w K mg base CX0 3 "are_two_places" ["numbers","thing"] spTwo)(z:MethOk P w K mg base CX0 6 cw "tied" ["self","one","other"] (spTied cw)):FnOk P w K mg base CX0 7 f fd ["self","thing"] (spHt cw):=by
 show F.ok KH fun _ _ _ _ H vs Q E g h=>?_
 .obtain⟨x,t,ss,ns,tps,ab,rfl,s,B,o,c,l,m,e,q⟩:=h;have u:=zT g;obtain⟨y,n,ol,I,hb,d,D,C,hw⟩:=id s;show⟨_,(qf (qt (zD (qo A (hmR g) qy (qa (zF (K:=K) rfl (pv 0) rfl) (qa (pv 1) qd))) (zR (qX z (hmR g) (pv 0) (qa (qq (qr (K:=K) rfl u) (pv 1) qe (fun _ _=>rfl)) (qa (qq (qr (K:=K) rfl u) (pv 1) qe (fun _ _=>rfl)) qd))))))),?_⟩;apply .inl ⟨x,cw,y,_,.ref n,rfl,hb,T.wcl,T.wn,zh,?_⟩;apply⟨n,t,ss,ab.1,ab.2,rfl,d,o,hw.nm _ l,hw.nm _ m,l,m,e,fun H1 b=>?_⟩;show⟨true,rfl,qaC ?_⟩;have a:=b _ _ o;apply⟨x,y,_,rfl,b _ _ hb,qan (by room),?_⟩;apply .inl (zo a (v:=.str ab.1) (qw (j:=0) rfl) ?_);apply .inl (zo a (v:=.str ab.2) (qw (j:=1) rfl) ?_);ext;obtain⟨j,r⟩:=yf l;obtain⟨i,p⟩:=yf m;show⟨x,ss,ns,ab.1,ab.2,j,i,rfl,s.same b,r,p,fun H2 G=>?_⟩;rw[(B j i ab.1 ab.2 r p).mpr c];show q H2 (b.trans G)
theorem ok_ap(F:Fun K "are_pairs" "are_pairs" jV f fd)(T:Txt K mg cc cw)(KB:MethOk P w K mg base CX0 7 cw "has_tie" ["self","thing"] (spHt cw)):FnOk P w K mg base CX0 8 f fd ["web","thing"] (spAp cw):=by
 show F.ok Kl fun _ _ _ _ H vs Q E X h=>?_
 .obtain⟨x,l,ss,ns,us,tps,qs,rfl,W,hA,⟨hl,r⟩,g,q⟩:=h;have e:=zT X;obtain⟨wx,dd,ol,nn,hb,_⟩:=id W;have aa:=g.few;have N:=r.len;show⟨_,(qb (qG (qO (qN (qj (zG (K:=K) rfl) rfl T.b_isinstance YC (qa (pv 1) (qa (jt (v:=.ty "list") rfl T.b_list xv rfl) qd))))) (qf (qt jr)) qv)
 (qb (qp (i:=2) Kl.nd rfl (yI rfl) ju)
 (qb (qU yW rfl (qM (K:=K) rfl (pv 1)) (qu (i:=3) Kl.nd rfl (yI rfl))
 (qb (qG (PW.pt (zl (qO (qN (qX KB (hmR X) (pv 0) (qa (pv 3) qd)))) (zl (qk (qcx (K:=K) rfl e) (qq (qr (K:=K) rfl e) (pv 3) qe (fun _ _=>rfl)) (pv 2) (by with_unfolding_all rfl)) (jY (qk (qcx (K:=K) rfl e) (qq (qr (K:=K) rfl e) (pv 3) qe (fun _ _=>rfl)) (pv 2) (by with_unfolding_all rfl)))))) (qf (qt jr)) qv)
 (qb (qT jr (jp (pv 2) (qq (qr (K:=K) rfl e) (pv 3) qe (fun _ _=>rfl)) (jq e)))
 (qf (qT jr (jp (pv 2) (qq (qr (K:=K) rfl e) (pv 3) qe (fun _ _=>rfl)) (jq e)))))))
 (qf (qt jr))))),?_⟩
  apply qaB (.inl (.lst hl)) rfl (jP K "list" (by simp) "list" (by simp)) ?_;apply yq ?_;ext;intro d C;have O:=qF (Sr H) (o:=.dK []) C;have U:upd H d (.dK []) d=some (.dK (j8 [])):=qc;generalize upd H d (.dK [])=H1 at O U;apply .inl ⟨⟨_,.of (O _ _ hl)⟩,qR (xs:=us.map V.ref) (fun i G J=>L2.Same H J/\∃ R,G=[some (.ref x),some (.ref l),some (.ref d),R]/\J d=some (.dK (j8 (qm (qs.take i))))) ⟨O,_,rfl,U⟩ (fun i G J _ u=>.of (u.1 _ _ hl)) (fun i y G J Y u=>?_) fun G J u=>?_⟩
  .obtain⟨n,R,rfl,c⟩:=u;rw[yd] at Y;obtain⟨b,s,rfl⟩:=yn.mp Y;have hi:i<us.length:=(yc.mp s).1;obtain⟨ab,m⟩:∃ ab,qs[i]?=some ab:=⟨_,yb (by rw[<- N];show hi)⟩;have B:=r.at_ i b ab s m;obtain⟨ht,m1,m2,t⟩:=g.inn ab (ye m);obtain⟨M,ac,Z,n2⟩:=g.new m;have ad:(qm (qs.take i)).length<=60:=by rw[namesOf_len,yL];lk
   have L:b≠d:=fun z=>by rw[z,C] at B;cases B
   apply⟨x,wx,_,rfl,n _ _ hb,qan (by room),?_⟩;apply⟨x,b,ss,ns,tps,ab,rfl,W.same n,hA,n _ _ B,ht,m1,m2,t,fun I D=>?_⟩;have A:=n.trans D;have a:=A _ _ B;apply yq ?_;apply .inl (zo a (v:=.str ab.1) (qw (j:=0) rfl) ?_);apply .inr (.inl ⟨d,_,rfl,DGet.k (k:=Sum.inr ab.1) (D _ _ c),?_⟩);rw[yB (by decide),jA,yl Z];apply yq ?_;apply .inl (zo a (v:=.str ab.2) (qw (j:=1) rfl) ?_);apply .inr (.inl ⟨d,_,rfl,DGet.k (k:=Sum.inr ab.2) (D _ _ c),?_⟩);rw[yB (by decide),jA,yl n2];apply yq ?_;apply .inl (zo a (v:=.str ab.1) (qw (j:=0) rfl) ?_);apply .inr ⟨d,_,rfl,DPut.k (k:=Sum.inr ab.1) (D _ _ c) (by unfold j8;rw[ya,Ys];lk),?_⟩;rw[zu Z];have s3:=qdW A (o:=.dK (j8 (qm (qs.take i)++[ab.1]))) C;have S:upd I d (.dK (j8 (qm (qs.take i)++[ab.1]))) d=some (.dK (j8 (qm (qs.take i)++[ab.1]))):=qc;have p:upd I d (.dK (j8 (qm (qs.take i)++[ab.1]))) b=some (.tup [.str ab.1,.str ab.2]):=by rw[qh L];show a
   generalize upd I d (.dK (j8 (qm (qs.take i)++[ab.1])))=J3 at s3 S p;apply .inl (zo p (v:=.str ab.2) (qw (j:=1) rfl) ?_);apply .inr ⟨d,_,rfl,DPut.k (k:=Sum.inr ab.2) S (by unfold j8;rw[ya,yz,Ys];simp only[yC,Yn];lk),?_⟩;rw[zu (fun z=>by rcases yH.mp z with z | z;show n2 z;show t (yx.mp z).symm)];show⟨qdW s3 C,_,rfl,by rw[qc,M,jL,YE];rfl⟩
  .obtain⟨n,R,rfl,c⟩:=u;apply q J n
theorem Kh:FnScope ["web","pairs","partners","pair"] ["web","pairs"] (qg jB):=fS
theorem qd1(qs:LP):(prK qs).length=2*qs.length:=by
 induction qs with
 | nil=>rfl
 | cons q r ih=>show(_::_::prK r).length=_;simp only[yC];rw[ih];lk
theorem prK_snoc(qs:LP)(q:Str×Str):prK (qs++[q])=prK qs++[(.inr q.1,.str q.2),(.inr q.2,.str q.1)]:=by
 unfold prK;rw[Xe];rfl
theorem qd2{q:Str×Str}(h:(qm (qs++[q])).Nodup):qab (qab (prK qs) (.inr q.1:Key) (.str q.2)) (.inr q.2:Key) (.str q.1)=prK (qs++[q]):=by
 rw[jL] at h;obtain⟨h1,b,c⟩:=yZ.mp h;have e:q.1∉qm qs:=fun z=>c _ z _ (by simp) rfl;have f:q.2∉qm qs:=fun z=>c _ z q.2 (by simp) rfl;have g:q.1≠q.2:=by simp at b;show b
 have i:zi (prK qs) (.inr q.1:Key)=none:=by rw[zH,pt_none.mpr e];rfl
 rw[qaH _ i]
 have a:zi (prK qs++[((.inr q.1:Key),V.str q.2)]) (.inr q.2:Key)=none:=by
  have a:zi (prK qs) (.inr q.2:Key)=none:=by rw[zH,pt_none.mpr f];rfl
  unfold zi at a ⊢;rw[List.find?_append];have:(prK qs).find? (fun d=>decide (d.1=(.inr q.2:Key)))=none:=by simpa using a
  rw[this];simp[g]
 rw[qaH _ a,prK_snoc];simp
inductive spPn(cw:Addr)(vs:List V)(H:Hp)(Q:VK)(E:XK):Prop|mk (x l:Addr) (ss:LS) (ns:LN) (us:LI) (tps qs:LP) (_:vs=[.ref x,.ref l]) (_:WebAt cw H x ss ns) (_:Adj ss ns tps) (_:PL H l us qs) (_:PGo ss tps qs) (_:∀(d:Addr) (H':Hp),L2.Same H H'->H d=none->H' d=some (.dK (prK qs))->Q (.ref d) H')
theorem qfw(F:Fun K "partners_in" "partners_in" jB f fd)(T:Txt K mg cc cw)(Y:DefOk P w K mg base CX0 8 "are_pairs" ["web","thing"] (spAp cw)):FnOk P w K mg base CX0 9 f fd ["web","pairs"] (spPn cw):=by
 show F.ok Kh fun _ _ _ _ H vs Q E S h=>?_
 .obtain⟨x,l,ss,ns,us,tps,qs,rfl,hW,hA,⟨hl,n⟩,g,q⟩:=h;have p:=zT S;have Z:=g.few;have u:=n.len;show⟨_,(qb (qG (qO (qN (qo Y (hmR S) qy (qa (pv 0) (qa (pv 1) qd))))) (qf jG) qv)
 (qb (qp (i:=2) Kh.nd rfl (yI rfl) ju)
 (qb (qU yW rfl (qM (K:=K) rfl (pv 1)) (qu (i:=3) Kh.nd rfl (yI rfl))
 (qb (qT (qq (qr (K:=K) rfl p) (pv 3) qe (fun _ _=>rfl)) (jp (pv 2) (qq (qr (K:=K) rfl p) (pv 3) qe (fun _ _=>rfl)) (jq p)))
 (qf (qT (qq (qr (K:=K) rfl p) (pv 3) qe (fun _ _=>rfl)) (jp (pv 2) (qq (qr (K:=K) rfl p) (pv 3) qe (fun _ _=>rfl)) (jq p))))))
 (qf (qt (pv 2)))))),?_⟩
  apply⟨x,l,ss,ns,us,tps,qs,rfl,hW,hA,⟨hl,n⟩,g,fun H1 W=>?_⟩;apply yq ?_;ext;intro d R;have c:=W.free R;have L:=qF W (o:=.dK []) R;have O:upd H1 d (.dK []) d=some (.dK (prK [])):=qc;generalize upd H1 d (.dK [])=H2 at L O;apply .inl ⟨⟨_,.of (L _ _ hl)⟩,qR (xs:=us.map V.ref) (fun i B J=>L2.Same H J/\∃ M,B=[some (.ref x),some (.ref l),some (.ref d),M]/\J d=some (.dK (prK (qs.take i)))) ⟨L,_,rfl,O⟩ (fun i B J _ t=>.of (t.1 _ _ hl)) (fun i y B J U t=>?_) fun B J t=>?_⟩
  .obtain⟨A,M,rfl,a⟩:=t;rw[yd] at U;obtain⟨b,s,rfl⟩:=yn.mp U;have hi:i<us.length:=(yc.mp s).1;obtain⟨ab,r⟩:∃ ab,qs[i]?=some ab:=⟨_,yb (by rw[<- u];show hi)⟩;have C:=n.at_ i b ab s r;obtain⟨I,G,n1,n2⟩:=g.new r;have D:b≠d:=fun z=>by rw[z,c] at C;cases C
   have m:=A _ _ C;have aa:(prK (qs.take i)).length<=2000:=by rw[qd1,yL];lk
   apply .inl (zo m (v:=.str ab.2) (qw (j:=1) rfl) ?_);apply .inl (zo m (v:=.str ab.1) (qw (j:=0) rfl) ?_);apply .inr ⟨d,_,rfl,DPut.k (k:=Sum.inr ab.1) a (by rw[Ys];lk),?_⟩;have X:=qdW A (o:=.dK (qab (prK (qs.take i)) (Sum.inr ab.1) (.str ab.2))) c;have N:upd J d (.dK (qab (prK (qs.take i)) (Sum.inr ab.1) (.str ab.2))) d=some (.dK (qab (prK (qs.take i)) (Sum.inr ab.1) (.str ab.2))):=qc;have e:upd J d (.dK (qab (prK (qs.take i)) (Sum.inr ab.1) (.str ab.2))) b=some (.tup [.str ab.1,.str ab.2]):=by rw[qh D];show m
   generalize upd J d (.dK (qab (prK (qs.take i)) (Sum.inr ab.1) (.str ab.2)))=J3 at X N e;apply .inl (zo e (v:=.str ab.1) (qw (j:=0) rfl) ?_);apply .inl (zo e (v:=.str ab.2) (qw (j:=1) rfl) ?_);apply .inr ⟨d,_,rfl,DPut.k (k:=Sum.inr ab.2) N ?_,?_⟩
   .have:=jS (prK (qs.take i)) (Sum.inr ab.1:Key) (.str ab.2);rw[Ys];lk
   .show⟨qdW X c,_,rfl,by rw[qc,qd2 G,I]⟩
  .obtain⟨A,M,rfl,a⟩:=t;rw[ya,u,Yc] at a;apply q d J A c a
theorem qa2:∀{qs:LP},pt qs s=some t->(s,t)∈qs\/(t,s)∈qs
 | [],h=>by cases h
 | q::r,h=>by
  unfold pt at h;split at h
  .rename_i e;cases h;show .inl (by rw[<- e];simp)
  .split at h
   .rename_i e;cases h;show .inr (by rw[<- e];simp)
   .rcases qa2 h with z | z
    .show .inl (yu _ z)
    .show .inr (yu _ z)
theorem qej:∀{qs:LP},(qm qs).Nodup->∀{a b:Str},(a,b)∈qs\/(b,a)∈qs->pt qs a=some b
 | [],_,a,b,m=>by rcases m with z | z<;>cases z
 | q::r,h,a,b,m=>by
  have d:(q.1::q.2::qm r).Nodup:=h;obtain⟨g,l⟩:=yo.mp d;obtain⟨n,o⟩:=yo.mp l;have inr:∀{x y:Str},(x,y)∈r->x∈qm r/\y∈qm r:=fun c=>⟨kF.mpr ⟨_,c,by simp⟩,kF.mpr ⟨_,c,by simp⟩⟩;unfold pt
  have later:(a,b)∈r\/(b,a)∈r->(if q.1=a then some q.2 else if q.2=a then some q.1 else pt r a)=some b:=fun j=>by
   have i:a∈qm r:=j.elim (fun z=>(inr z).1) fun z=>(inr z).2;rw[yB (fun z=>g (by rw[z];show yu _ i)),yB (fun z=>n (by rw[z];show i))];show qej o j
  rcases m with z | z
  .rcases yA.mp z with z | z
   .subst z;rw[yG rfl]
   .show later (.inl z)
  .rcases yA.mp z with z | z
   .subst z;have f:b≠a:=fun e=>g (by show b∈a::_;rw[e];show yy);rw[yB f,yG rfl]
   .show later (.inr z)
theorem qdc(h:(qm qs).Nodup){a:Str}:pt qs a=some b↔(a,b)∈qs\/(b,a)∈qs:=⟨qa2,qej h⟩
theorem pt_sym(h:(qm qs).Nodup){a:Str}:pt qs a=some b↔pt qs b=some a:=by
 rw[qdc h,qdc h,Or.comm]
theorem opt_ext{x y:Option Str}(h:∀ b,x=some b↔y=some b):x=y:=by
 cases x with
 | none=>cases y with
  | none=>rfl
  | some b=>show absurd ((h b).mpr rfl) (fun z=>by cases z)
 | some a=>show((h a).mp rfl).symm
theorem qd3(a b:Str):eqV (.str a) (.str b)=decide (a=b):=by
 unfold eqV;by_cases h:a=b<;>simp[h]
theorem qe8{i j:Str}{Q:VK}(q:Q (.bl (decide (i=j))) H):qe7 K (.str i) (.str j) H Q:=.inl (.inl (.inl ⟨rfl,rfl,by rw[yB (by decide),qd3];show q⟩))
theorem vNeS{i j:Str}{Q:VK}(q:Q (.bl (!decide (i=j))) H):qeC K true (.str i) (.str j) H Q:=.inl ⟨rfl,rfl,by rw[yG rfl,qd3];show q⟩
noncomputable def tpsOf(a qs:LP):LP:=a.filter fun q=>decide (pt qs q.1=some q.2)
inductive spTp(cw:Addr)(vs:List V)(H:Hp)(Q:VK)(E:XK):Prop|mk (x l:Addr) (ss:LS) (ns:LN) (us:LI) (tps qs:LP) (_:vs=[.ref x,.ref l]) (_:WebAt cw H x ss ns) (_:Adj ss ns tps) (_:PL H l us qs) (_:PGo ss tps qs) (_:∀(l:Addr) (ls:LI) (H':Hp),L2.Same H H'->H l=none->H' l=some (.lst (ls.map V.ref))->ls.length<=196->All2 (qf9 H H' l) ls (tpsOf (qeN ss ns ss.length) qs)->Q (.ref l) H')
noncomputable def stp(rs:LS):LP:=rs.zip rs.tail
noncomputable def prB(qs:LP)(ab:Str×Str):Bool:=decide (pt qs ab.1=some ab.2)
structure RowG(ss:LS)(tps qs:LP)(rs:LS):Prop where
 nd:rs.Nodup
 two:2<=rs.length
 few:rs.length<=1000
 inn:∀ r∈rs,r∈ss
 tie:∀(j:Nat) ab,(stp rs)[j]?=some ab->ab∈tps\/(ab.2,ab.1)∈tps
 alt:∀(j:Nat) ab cd,(stp rs)[j]?=some ab->(stp rs)[j+1]?=some cd->prB qs cd=!prB qs ab
 hd:∀ s t,rs[0]?=some s->rs[1]?=some t->pt qs s=none\/pt qs s=some t
 tl:∀ s t,rs[rs.length-1]?=some s->rs[rs.length-2]?=some t->pt qs s=none\/pt qs s=some t
structure Rw(cw:Addr)(H:Hp)(x l a:Addr)(ss:LS)(ns:LN)(us:LI)(tps qs:LP)(rs:LS):Prop where
 web:WebAt cw H x ss ns
 adj:Adj ss ns tps
 prs:PL H l us qs
 pgo:PGo ss tps qs
 row:H a=some (.lst (rs.map V.str))
 rok:RowG ss tps qs rs
inductive spUl(cw:Addr)(vs:List V)(H:Hp)(Q:VK)(E:XK):Prop|mk (x a:Addr) (ss:LS) (ns:LN) (rs:LS) (_:vs=[.ref x,.ref a]) (_:WebAt cw H x ss ns) (_:H a=some (.lst (rs.map V.str))) (_:rs.Nodup) (_:rs.length<=1000) (_:(∀ r∈rs,r∈ss)) (_:∀ H',L2.Same H H'->Q (.bl true) H')
inductive spGt(cw:Addr)(vs:List V)(H:Hp)(Q:VK)(E:XK):Prop|mk (x l d a:Addr) (ss:LS) (ns:LN) (us:LI) (tps qs:LP) (rs:LS) (_:vs=[.ref x,.ref d,.ref a]) (_:Rw cw H x l a ss ns us tps qs rs) (_:H d=some (.dK (prK qs))) (_:∀ H',L2.Same H H'->Q (.bl true) H')
inductive spIr(cw:Addr)(vs:List V)(H:Hp)(Q:VK)(E:XK):Prop|mk (x l a:Addr) (ss:LS) (ns:LN) (us:LI) (tps qs:LP) (rs:LS) (_:vs=[.ref x,.ref l,.ref a]) (_:Rw cw H x l a ss ns us tps qs rs) (_:∀ H',L2.Same H H'->Q (.bl true) H')
theorem qek{Q:VK}(q:Q (.bl (decide (pt qs s=some t))) H):qe7 K (((pt qs s).map V.str).getD .non) (.str t) H Q:=by
 cases e:pt qs s with
 | none=>rw[e] at q;show .inl (.inl (.inl ⟨rfl,rfl,q⟩))
 | some u =>
  show qe8 ?_;rw[e] at q
  rwa[show decide (u=t)=decide (some u=some t) from YS.mpr ⟨congrArg some,ym⟩]
def adjR(rs:LS)(a b:Str):Prop:=∃ j:Nat,(rs[j]?=some a/\rs[j+1]?=some b)\/(rs[j]?=some b/\rs[j+1]?=some a)
theorem adjR.mem{rs:LS}{a:Str}(h:adjR rs a b):a∈rs/\b∈rs:=h.elim fun j z=>z.elim (fun y=>⟨ye y.1,ye y.2⟩) fun y=>⟨ye y.2,ye y.1⟩
structure TurnR(f:Str->Option Str)(rs:LS):Prop where
 nd:rs.Nodup
 two:2<=rs.length
 sym:∀ a b,f a=some b->f b=some a
 alt:∀(j:Nat) r s t,rs[j]?=some r->rs[j+1]?=some s->rs[j+2]?=some t->(f s=some r↔¬ f s=some t)
 fst:∀ s t,rs[0]?=some s->rs[1]?=some t->f s=none\/f s=some t
 lst:∀ s t,rs[rs.length-1]?=some s->rs[rs.length-2]?=some t->f s=none\/f s=some t
def flipR(f:Str->Option Str)(rs:LS)(a b:Str):Prop:=(a∉rs/\f a=some b)\/(adjR rs a b/\f a≠some b)
theorem uq:FnScope ["_law_script","_law_k"] ["_law_script","_law_k"] (qg qdd):=fS
theorem ul:FnScope ["_law_cell"] ["_law_cell"] (qg qbx):=fS
theorem Kz:FnScope ["_law_box_here","_law_many","_law_digit","_law_number","_law_rest"] ["_law_box_here","_law_many"] (qg qaM):=fS
inductive spCe(K:W.Frag)(vs:List V)(H:Hp)(Q:VK)(E:XK):Prop|mk (a:Addr) (ns:LQ) (k:Nat) (_:vs=[.ref a,.int (k:Int)]) (_:SqL K H a (ns.map V.int)) (_:k<1000) (_:∀ i:Int,Q (.int i) H)
def Pn(N:Nat)(H:Hp)(p:Addr):Prop:=∃ a b c:Int,H p=some (.lst [.int a,.int b,.int c])/\0<=a/\0<=b/\b<2147483629/\0<=c/\c+(N:Int)<=1099511627776
theorem Pn.mono(h:Pn N H p)(l:M<=N):Pn M H p:=by
 obtain⟨a,b,c,e,h1,d,f,g,i⟩:=h;show⟨a,b,c,e,h1,d,f,g,by lk⟩
theorem Pn.same(h:Pn N H p)(s:L2.Same H H'):Pn N H' p:=by
 obtain⟨a,b,c,e,r⟩:=h;show⟨a,b,c,s _ _ e,r⟩
theorem Pn.new(h:Pn N H p)(hl:H l=none):Pn N (upd H l o) p:=h.same (qF (Sr H) hl)
theorem Pn.apart(h:Pn N H p)(hl:H l=none):l≠p:=fun z=>by obtain⟨a,b,c,e,r⟩:=h;rw[z,e] at hl;cases hl
inductive spPu(vs:List V)(H:Hp)(Q:VK)(E:XK):Prop|mk (c:Int) (_:vs=[.int c]) (_:∀(p:Addr) (H':Hp),L2.Same H H'->H p=none->Pn 1000000000000 H' p->Q (.ref p) H')
inductive spTkN(vs:List V)(H:Hp)(Q:VK)(E:XK):Prop|mk (p:Addr) (m N:Nat) (_:vs=[.ref p,.int (m:Int)]) (_:Pn (N+1) H p) (_:0<m) (_:m<1000) (_:∀(d:Nat) (H':Hp),d<m->But p H H'->Pn N H' p->Q (.int (d:Int)) H')
theorem But.trans7(a:But p H H1)(b:But p H1 H2):But p H H2:=fun c o n e=>b c o n (a c o n e)
theorem But.new7(a:But p H H1)(hl:H1 l=none):But p H (upd H1 l o):=fun c u n e=>by
 have:=a c u n e;have ne:c≠l:=fun z=>by rw[z,hl] at this;cases this
 rw[qh ne];show this
theorem But.free7(a:But p H H1)(b:l≠p)(hl:H1 l=none):H l=none:=by
 cases e:H l with
 | none=>rfl
 | some o=>rw[a l o b e] at hl;cases hl
noncomputable abbrev iV(k:Nat):V:=.int (k:Int)
theorem ok_ce(F:Fun K "_law_at" "_law_at" qdd f fd)(T:Txt K mg cc cw):FnOk P w K mg base CX0 1 f fd ["_law_script","_law_k"] (spCe K):=by
 show F.ok uq fun _ _ _ _ H vs Q E d h=>?_
 .obtain⟨a,ns,k,rfl,b,h1,q⟩:=h;have e:=zT d;show⟨_,(qb (qG (qk qdz (pv 1) (qj (jw (K:=K) rfl) rfl T.b_len Yy (qa (pv 0) qd)) (qx _)) (qf (qt (qq (qr (K:=K) rfl e) (pv 0) (pv 1) (fun _ _=>rfl)))) qv)
 (qf (qt (qA (jT (K:=K) rfl) (qA qb1 qe (pv 1)) qe)))),?_⟩
  apply vLenLs b ?_;rw[ya];ext;by_cases c:k<ns.length
  .rw [yD (show(k:Int)<(ns.length:Int) by lk)];show qaC ?_;apply .inl (vIxLs b (v:=.int ns[k]) (qw (by rw[yd,yb c];rfl)) ?_);show q _
  .rw [yl (show ¬ (k:Int)<(ns.length:Int) by lk)];show yq ?_;apply qct (.inl ⟨by decide,by decide⟩) ?_;apply q _
theorem ok_pu(F:Fun K "_law_box" "_law_box" qbx f fd)(T:Txt K mg cc cw):FnOk P w K mg base CX0 1 f fd ["_law_cell"] spPu:=by
 show F.ok ul fun _ _ _ _ H vs Q E d h=>?_
 .obtain⟨c,rfl,q⟩:=h;show⟨_,(qf (qt (qK (qa (qj (call_max2 rfl) rfl T.b_max boot_max (qa qe (qa (qA qcL (pv 0) (qA op_pow qe qe)) qd))) (qa (qA zS (pv 0) qe) (qa qe qd)))))),?_⟩;apply vI ⟨by decide,by decide,by decide⟩ ?_;apply⟨_,_,rfl,?_⟩;apply vI (by decide) ?_;apply⟨by show 3<=sizeLine;decide,fun p a=>?_⟩;have h1:=xS c (show(2147483629:Int)≠0 by decide);have b:=xz c (show(0:Int)<2147483629 by decide);show q p _ (qF (Sr H) a) a ⟨_,_,_,qc,by split<;>lk,h1,b,by decide,by decide⟩
theorem ok_tkp(F:Fun K "_law_take" "_law_take" qaM f fd)(T:Txt K mg cc cw):FnOk P w K mg base CX0 1 f fd ["_law_box_here","_law_many"] spTkN:=by
 show F.ok Kz fun _ _ _ _ H vs Q E W h=>?_
 .obtain⟨p,m,N,rfl,⟨a,b,c,L,A,hb,l,hc,S⟩,X,h1,q⟩:=h;have g:=zT W;have r:(0:Int)<(m:Int):=by lk
  show⟨_,(qb (qT (qA (jT (K:=K) rfl) (qq (qr (K:=K) rfl g) (pv 0) qe (fun _ _=>rfl)) qe) (jp (pv 0) qe (jq g)))
 (qb (qG (qk qbp (qq (qr (K:=K) rfl g) (pv 0) qe (fun _ _=>rfl)) qe (qx _)) (qb (qp (i:=2) Kz.nd rfl (yI rfl) (qA zS (qq (qr (K:=K) rfl g) (pv 0) qe (fun _ _=>rfl)) (pv 1)))
 (qb (qT (qA qbo (qq (qr (K:=K) rfl g) (pv 0) qe (fun _ _=>rfl)) (pv 1)) (jp (pv 0) qe (jq g)))
 (qf (qt (pv 2))))) qv)
 (qb (qp (i:=3) Kz.nd rfl (yI rfl) (qA zS (qA (jT (K:=K) rfl) (qA (jT (K:=K) rfl) (qA qb1 (qq (qr (K:=K) rfl g) (pv 0) qe (fun _ _=>rfl)) qe) (qA qb1 qe (qq (qr (K:=K) rfl g) (pv 0) qe (fun _ _=>rfl)))) qe) qe))
 (qb (qp (i:=4) Kz.nd rfl (yI rfl) (qA (jT (K:=K) rfl) (qA (jT (K:=K) rfl) (qA qbo (pv 3) qe) (qA qb1 (qq (qr (K:=K) rfl g) (pv 0) qe (fun _ _=>rfl)) (qq (qr (K:=K) rfl g) (pv 0) qe (fun _ _=>rfl)))) qe))
 (qb (qp (i:=3) Kz.nd rfl (yI rfl) (qA zS (qA qb1 (qA (jT (K:=K) rfl) (qA zS (pv 3) qe) qe) (pv 4)) qe))
 (qf (qt (qA zS (qA qbo (qA zS (qA qb1 (pv 3) (qA (jT (K:=K) rfl) (qA qbo (pv 3) qe) qe)) qe) qe) (pv 1))))))))),?_⟩
  apply .inl (zd L rfl ?_);apply .inl (qeh L rfl ?_);have y:But p H (upd H p (.lst [.int a,.int b,.int (c+1)])):=fun x o n e=>by rw[qh n];show e
  have d:upd H p (.lst [.int a,.int b,.int (c+1)]) p=some (.lst [.int a,.int b,.int (c+1)]):=qc;have R:upd H p (.lst (([V.int a,.int b,.int c]).set (2:Int).toNat (.int (c+1))))=upd H p (.lst [.int a,.int b,.int (c+1)]):=rfl;ext;rw[R];generalize upd H p (.lst [.int a,.int b,.int (c+1)])=H1 at y d;show .inl (zd d rfl ?_);apply qE (fun U=>?_) (fun U=>?_)
  .ext;show .inl (zd d rfl ?_);apply vI r ?_;apply .inl (zd d rfl ?_);apply vI ⟨r,by lk⟩ ?_;apply .inl (qeh d rfl ?_);ext;have M:=xS a (show(m:Int)≠0 by lk);have O:=xz a r;have z:a % (m:Int)=(((a % (m:Int)).toNat:Nat):Int):=by lk
   rw[z];show q _ _ (by lk) (fun x o n e=>by rw[qh n];show y x o n e) ⟨_,_,_,qc,Int.ediv_nonneg A (by lk),hb,l,by lk,by lk⟩
  .ext;show .inl (zd d rfl ?_);apply qct (.inr ⟨by decide,by decide⟩) ?_;apply .inl (zd d rfl ?_);apply qct (.inl ⟨by decide,by decide⟩) ?_;apply vI (by decide) ?_;ext;generalize s:(b*48271+6007*(c+1)+29) % 2147483647=j;have D:0<=j:=by rw[<- s];show xS _ (by decide)
   have G:j<2147483647:=by rw[<- s];show xz _ (by decide)
   show vI ⟨by decide,by decide⟩ ?_;apply .inl (zd d rfl ?_);apply .inl (zd d rfl ?_);show qct (.inl ⟨by lk,by lk⟩) ?_;apply vI (by decide) ?_;ext;have B:=xS j (show(65537:Int)≠0 by decide);have C:=xz j (show(0:Int)<65537 by decide);show qct (.inl ⟨by lk,by lk⟩) ?_;apply vI (by decide) ?_;generalize t:(j % 65537+11)*(j / 65537+(c+1)*(c+1)+5) % 2147483587=u;have I:0<=u:=by rw[<- t];show xS _ (by decide)
   have J:u<2147483587:=by rw[<- t];show xz _ (by decide)
   apply vI ⟨by decide,by decide⟩ ?_;apply qct (.inl ⟨by lk,by lk⟩) ?_;apply vI (by decide) ?_;apply vI ⟨by decide,by decide⟩ ?_;apply vI r ?_;generalize u*(u / 1009+3) % 1000000007 / 13=v;have M:=xS v (show(m:Int)≠0 by lk);have O:=xz v r;have z:v % (m:Int)=(((v % (m:Int)).toNat:Nat):Int):=by lk
   rw[z];show q _ _ (by lk) y ⟨_,_,_,d,A,hb,l,by lk,by lk⟩
theorem Kc:FnScope ["_law_box_here","_law_many","_law_letters","_law_base","_law_first","_law_long","_law_at_here","_law_step","_law_end","_law_names_here","_law_k","_law_sign"] ["_law_box_here","_law_many"] (qg jW):=fS
theorem qby{X:L2.Cx}{st:List PySem.Stmt}{t:L2.TS}(t':L2.TS)(h:L2.PSs X st t)(k:∀ D b H,t' D b H->t D b H):L2.PSs X st t':=fun a s b H D I q=>h a s b H D I (k D b H q)
theorem eqv_decJ(a b:Int):(if false=true then !eqV (V.int a) (V.int b) else eqV (V.int a) (V.int b))=decide (a=b):=by
 rw[yB (by decide)];unfold eqV;by_cases h:a=b<;>simp[h]
theorem qel{i j:Int}{Q:VK}(q:Q (.bl (decide (i=j))) H):qe7 K (.int i) (.int j) H Q:=.inl (.inl (.inl ⟨rfl,rfl,by rw[eqv_decJ];show q⟩))
noncomputable def stepsA:LN:=[3,7,25]
noncomputable def cA(first step j:Nat):Nat:=97+(first+step*j) % 26
theorem cA_sg(first step j:Nat):sg (cA first step j)=true:=by unfold cA;show qe4 (by lk) (by lk)
theorem cA_inj{first step:Nat}(a:step∈stepsA){k:Nat}(b:j<14)(c:k<14)(e:cA first step j=cA first step k):j=k:=by
 unfold cA at e;simp only[stepsA,yA,yS,YN] at a;rcases a with rfl | rfl | rfl<;>lk
theorem j9(s:Str):s.length=s.cps.toList.length:=by simp[Str.length]
inductive spNmA(vs:List V)(H:Hp)(Q:VK)(E:XK):Prop|mk (p:Addr) (m N:Nat) (_:vs=[.ref p,.int (m:Int)]) (_:Pn (N+16) H p) (_:m<=14) (_:∀(l:Addr) (ss:LS) (H':Hp),But p H H'->Pn N H' p->H l=none->l≠p->H' l=some (.lst (ss.map V.str))->NOk ss->ss.length=m->Q (.ref l) H')
theorem qd4{y:Option V}{Q:V->Hp->Prop}(C:n<=100)(u:Pn (M+n) H1 p)(q:∀(zs:LS) (J:Hp) (l:Addr),But p H1 J->Pn M J p->zs.length=n->(∀ x∈zs,x.length=1/\x.cps.toList.all sg=true)->J l=none->Q (.ref l) (upd J l (.lst (zs.map V.str)))) :
  qdJ (Itr 0 n) (qbL 0) qfJ (tOp (qf3 K) (qfa 1) (qco spTkN [] E0 (qeb (qfa 2) (qeb (tC (.int 26)) qfi)))) [y,some (.str L26),some (.ref p)] H1 Q:=by
 show zc (lo:=0) (n:=n) (fun i s J=>i<=n/\But p H1 J/\Pn (M+(n-i)) J p/\∃ xs:LS,s=xs.map V.str/\xs.length=i/\∀ x∈xs,x.length=1/\x.cps.toList.all sg=true) ⟨yU _,fun c o _ e=>e,u,[],rfl,rfl,fun _ h=>by cases h⟩ (fun i s J B g=>?_) fun s J g=>?_
 .obtain⟨_,b,a,xs,rfl,m,j⟩:=g;apply qaC ?_;apply⟨p,26,M+(n-(i+1)),rfl,a.mono (by lk),by decide,by decide,fun r A v t d=>?_⟩;show .inl (qfO (by room) (qd0 (by lk) (by lk)) ?_);show⟨by rw[ya];show qi (by lk),by lk,b.trans7 t,d,xs++[_],by rw[yE];rfl,by rw[yz,m];rfl,fun x w=>?_⟩;rcases yH.mp w with z | z
  .show j x z
  .rw [yx.mp z];show⟨rfl,?_⟩;have:=qe4 (c:=97+r) (by lk) (by lk);simp[this]
 .obtain⟨_,b,a,zs,rfl,f,h1⟩:=g;show⟨by rw[ya];show yP (qi (by lk)),fun l hl=>q zs J l b (a.mono (by lk)) f h1 hl⟩
theorem qeO(h1:∀ x∈zs,x.length=1/\x.cps.toList.all sg=true):(Txt.join "" zs).length=zs.length/\(Txt.join "" zs).cps.toList.all sg=true:=by
 show⟨join_len fun x a=>(h1 x a).1,?_⟩;have e:Txt.join "" zs=Str.join "" zs:=yY.mp (join_plain_closes "" zs);rw[e];show qc8 fun x a=>(h1 x a).2
theorem ok_nmA(F:Fun K "_law_names" "_law_names" jW f fd)(T:Txt K mg cc cw)(kZ:DefOk P w K mg base CX0 1 "_law_take" ["_law_box_here","_law_many"] spTkN):FnOk P w K mg base CX0 2 f fd ["_law_box_here","_law_many"] spNmA:=by
 show F.ok Kc fun _ _ _ s H vs Q E R h=>?_
 .obtain⟨p,m,N,rfl,hB,hm,q⟩:=h;have hu:=zT R;obtain⟨TC2,aa⟩:∃ t:TS,t=fun D σ H'=>(∀ u H',Q u H'->D.rt u H')/\∃(x3 x4 x5 x6 x7 x8 x9 b g:Option V),σ=[some (.ref p),some (.int (m:Int)),some (.str L26),x3,x4,x5,x6,x7,x8,x9,b,g]/\But p H H'/\Pn (N+15) H' p:=⟨_,rfl⟩;obtain⟨TC8,ac⟩:∃ t:TS,t=fun D σ H'=>(∀ u H',Q u H'->D.rt u H')/\∃(x5 x9 b g:Option V) (base:Str) (first at_ step e:Nat),σ=[some (.ref p),some (.int (m:Int)),some (.str L26),some (.str base),some (.int (first:Int)),x5,some (.int (at_:Int)),some (.int (step:Int)),some (.str ⟨#[e]⟩),x9,b,g]/\But p H H'/\Pn N H' p/\step∈stepsA/\base.length<=4/\base.cps.toList.all sg=true/\at_<=base.length/\sg e=true:=⟨_,rfl⟩;show⟨_,(qb (qp (i:=2) Kc.nd rfl (Xw rfl) qZ)
 (qb (qG (PW.pt (zC (qk qdz (pv 1) qe (qx _)) (zj (qk (zy (K:=K) rfl hu) (qo kZ (hmR R) qy (qa (pv 0) (qa qe qd))) qe (qx _))))) (qb (qp (i:=3) Kc.nd rfl (Xw rfl) (qb2 (K:=K) rfl PySem.F.plainAttrs_str PySem.F.slot_str_join PySem.F.type_str_join (qet (K:=K) rfl) qZ (qa (j7 (sc:=qg jW) (XN:=["_law_box_here","_law_many","_law_letters","_law_base","_law_first","_law_long","_law_at_here","_law_step","_law_end","_law_names_here","_law_k","_law_sign"]) ["_law_k","_law_letters","_law_box_here"] 1 [2,0] rfl rfl rfl (by room) rfl (by room)
  (jd rfl T.b_range (qa qe qd)) (fun _ _ _ _=>(qu (i:=0) (show(["_law_k","_law_letters","_law_box_here"]:LS).Nodup by room) rfl (yI rfl))) jc
  (fun _ _ _ _=>jv)
  (fun _ _ _ _=>(qq (qr (K:=K) rfl hu) (pv 1) (qo kZ (hmR R) qy (qa (pv 2) (qa qe qd))) (fun _ _=>rfl)))) qd)))
 (qb (qp (i:=4) Kc.nd rfl (Xw rfl) (qo kZ (hmR R) qy (qa (pv 0) (qa qe qd))))
 (qf (qt (j7 (sc:=qg jW) (XN:=["_law_box_here","_law_many","_law_letters","_law_base","_law_first","_law_long","_law_at_here","_law_step","_law_end","_law_names_here","_law_k","_law_sign"]) ["_law_k","_law_base","_law_first"] 1 [3,4] rfl rfl rfl (by room) rfl (by room)
  (jd rfl T.b_range (qa (pv 1) qd)) (fun _ _ _ _=>(qu (i:=0) (show(["_law_k","_law_base","_law_first"]:LS).Nodup by room) rfl (yI rfl))) jc
  (fun _ _ _ _=>jv)
  (fun _ _ _ _=>(qaG (qfA (K:=K) rfl) (pv 1) qbq (jR (qA (jT (K:=K) rfl) qe (qA zS (qA (jT (K:=K) rfl) (pv 2) (pv 0)) qe)))))))))) qv)
 (qby TC2 (qb (qp (i:=5) Kc.nd rfl (yI rfl) (qo kZ (hmR R) qy (qa (pv 0) (qa qe qd))))
 (qb (qp (i:=3) Kc.nd rfl (Xw rfl) (qb2 (K:=K) rfl PySem.F.plainAttrs_str PySem.F.slot_str_join PySem.F.type_str_join (qet (K:=K) rfl) qZ (qa (j7 (sc:=qg jW) (XN:=["_law_box_here","_law_many","_law_letters","_law_base","_law_first","_law_long","_law_at_here","_law_step","_law_end","_law_names_here","_law_k","_law_sign"]) ["_law_k","_law_letters","_law_box_here"] 1 [2,0] rfl rfl rfl (by room) rfl (by room)
  (jd rfl T.b_range (qa (pv 5) qd)) (fun _ _ _ _=>(qu (i:=0) (show(["_law_k","_law_letters","_law_box_here"]:LS).Nodup by room) rfl (yI rfl))) jc
  (fun _ _ _ _=>jv)
  (fun _ _ _ _=>(qq (qr (K:=K) rfl hu) (pv 1) (qo kZ (hmR R) qy (qa (pv 2) (qa qe qd))) (fun _ _=>rfl)))) qd)))
 (qb (qp (i:=6) Kc.nd rfl (yI rfl) (qo kZ (hmR R) qy (qa (pv 0) (qa (qA (jT (K:=K) rfl) (qj (jw (K:=K) rfl) rfl T.b_len Yy (qa (pv 3) qd)) qe) qd))))
 (qb (qp (i:=4) Kc.nd rfl (Xw rfl) (qo kZ (hmR R) qy (qa (pv 0) (qa qe qd))))
 (qb (qp (i:=7) Kc.nd rfl (yI rfl) (qq (qr (K:=K) rfl hu) (qK (qa qe (qa qe (qa qe qd)))) (qo kZ (hmR R) qy (qa (pv 0) (qa qe qd))) (fun _ _=>rfl)))
 (qb (qp (i:=8) Kc.nd rfl (yI rfl) (qq (qr (K:=K) rfl hu) (pv 2) (qo kZ (hmR R) qy (qa (pv 0) (qa qe qd))) (fun _ _=>rfl)))
 (qby TC8 (qb (qp (i:=9) Kc.nd rfl (yI rfl) (qK qd))
 (qb (qU yW rfl (jd rfl T.b_range (qa (pv 1) qd)) (qu (i:=10) Kc.nd rfl (yI rfl))
 (qb (qp (i:=11) Kc.nd rfl (yI rfl) (qq (qr (K:=K) rfl hu) (pv 2) (qA zS (qA (jT (K:=K) rfl) (pv 4) (qA qb1 (pv 7) (pv 10))) qe) (fun _ _=>rfl)))
 (qf (q9 (qb2 (K:=K) rfl yO Ye Yg qL (pv 9) (qa (qA (jT (K:=K) rfl) (qA (jT (K:=K) rfl) (qA (jT (K:=K) rfl) (qaG (qfA (K:=K) rfl) (pv 3) qbq (jR (pv 6))) (pv 11)) (qaG (qfA (K:=K) rfl) (pv 3) (jR (pv 6)) qbq)) (qq (qr (K:=K) rfl hu) (qK (qa qZ (qa (pv 8) qd))) (qA zS (pv 10) qe) (fun _ _=>rfl))) qd))))))
 (qf (qt (pv 9))))) ?cut8))))))) ?cut2))),?_⟩
  case cut8 =>
   intro D σ H1 h;rw[ac] at h;obtain⟨hD,x5,x9,b,g,base,first,at_,step,e,rfl,b1,hB1,L,ba,ai,ao,ax⟩:=h;have lB:=j9 base
   have bc:0<step/\step<=25:=by
    have h:=L;simp only[stepsA,yA,yS,YN] at h;lk
   have et:=qbj base at_;have ed:=slice_drop base at_;have lt:(Txt.slice base none (some (at_:Int))).length=at_:=by rw[j9,et,yL];lk
   have ld:(Txt.slice base (some (at_:Int)) none).length=base.length-at_:=by rw[j9,ed,xJ];lk
   apply⟨by show 0<=sizeLine;decide,fun l hl=>?_⟩;have A:=hB1.apart hl;apply⟨(m:Int),rfl,by lk,by lk,?_⟩;rw[Yj];show zZ (lo:=0) (n:=m) (fun i σ J=>∃(ss:LS) (b g:Option V),σ=[some (.ref p),some (.int (m:Int)),some (.str L26),some (.str base),some (.int (first:Int)),x5,some (.int (at_:Int)),some (.int (step:Int)),some (.str ⟨#[e]⟩),some (.ref l),b,g]/\But p H1 J/\Pn N J p/\J l=some (.lst (ss.map V.str))/\ss.length=i/\∀(j:Nat) s,ss[j]?=some s->jF s=true/\s.cps.toList[at_]?=some (cA first step j)) ⟨[],_,_,rfl,But.new7 (fun c o _ e=>e) hl,hB1.new hl,qc,rfl,fun j s h=>by simp at h⟩ (fun i σ J hi hp=>?_) fun σ J hp=>?_
   .obtain⟨ss,b,g,rfl,S,r,W,G,I⟩:=hp;rw[kN];apply qct (.inl ⟨by lk,by lk⟩) ?_;apply vI (by decide) ?_;have ec:((first:Int)+(step:Int)*(i:Int)) % 26=(((first+step*i) % 26:Nat):Int):=by lk
    rw[ec];show .inl (qfO (by room) (qd0 (by lk) (by lk)) ?_);rw[Yj];have ap:97+(first+step*i) % 26=cA first step i:=rfl;rw[ap];have aj:=cA_sg first step i;generalize aq:cA first step i=y at aj;have ag:(ss.map V.str).length<sizeLine:=by rw[ya];show qi (by lk)
    apply⟨.inl ⟨rfl,_,.of W⟩,?_⟩;apply qfP (yP (qi (by lk))) ?_;apply qeZ (by rw[lt];show _+1<=sizeLine;show yP (qi (by lk))) ?_;have e2:(Txt.slice base none (some (at_:Int))++(⟨#[y]⟩:Str)).cps.toList=base.cps.toList.take at_++[y]:=by rw[qao,et]
    have l2:(Txt.slice base none (some (at_:Int))++(⟨#[y]⟩:Str)).length=at_+1:=by rw[j9,e2,yz,yL];simp only[yC,Yn];lk
    generalize Txt.slice base none (some (at_:Int))++(⟨#[y]⟩:Str)=s2 at e2 l2;apply qfP (yP (qi (by lk))) ?_;show qeZ (by rw[l2,ld];show yP (qi (by lk))) ?_;have e3:(s2++Txt.slice base (some (at_:Int)) none).cps.toList=base.cps.toList.take at_++[y]++base.cps.toList.drop at_:=by rw[qao,ed,e2]
    have l3:(s2++Txt.slice base (some (at_:Int)) none).length=base.length+1:=by rw[j9,e3];simp only[yz,yL,xJ,yC,Yn];lk
    generalize s2++Txt.slice base (some (at_:Int)) none=s3 at e3 l3;apply⟨by show 2<=sizeLine;decide,fun m2 X=>?_⟩;have s4:=qF (Sr J) (o:=.lst [.str "",.str ⟨#[e]⟩]) X;have em:upd J m2 (.lst [.str "",.str ⟨#[e]⟩]) m2=some (.lst [.str "",.str ⟨#[e]⟩]):=qc;generalize upd J m2 (.lst [.str "",.str ⟨#[e]⟩])=J2 at s4 em;apply vI (by decide) ?_;have eI:(i:Int) % 2=((i % 2:Nat):Int):=by lk
    rw[eI]
    obtain⟨z,hz,Z,ay⟩:∃ z:Str,[V.str "",.str ⟨#[e]⟩][i % 2]?=some (.str z)/\z.length<=1/\z.cps.toList.all sg=true:=by
     have h2:i % 2=0\/i % 2=1:=by lk
     rcases h2 with h | h<;>rw[h]
     .show⟨"",rfl,by decide,rfl⟩
     .show⟨⟨#[e]⟩,rfl,yh _,by simp[ax]⟩
    show .inl (zd em (v:=.str z) (qw hz) ?_);show qeZ (by rw[l3];show yP (qi (by lk))) ?_;have e4:(s3++z).cps.toList=base.cps.toList.take at_++[y]++base.cps.toList.drop at_++z.cps.toList:=by rw[qao,e3]
    have l4:(s3++z).cps.toList.length=base.length+1+z.length:=by rw[e4];simp only[yz,yL,xJ,yC,Yn];rw[j9 z];lk
    have au:=s4 _ _ W;apply⟨l,_,_,rfl,rfl,au,ag,?_⟩;have av:l≠p:=A;have an:H1 l=none:=hl;show⟨ss++[s3++z],_,_,rfl,fun c o hc ee=>?_,?_,by rw[qc,yE];rfl,by rw[yz,G];rfl,fun j s' a=>?_⟩
    .rw [qh (fun z=>by rw[z,an] at ee;cases ee)];show s4 _ _ (S c o hc ee)
    .obtain⟨a1,a2,a3,a4,a5⟩:=r.same s4;show⟨a1,a2,a3,by rw[qh (Yq av)];show a4,a5⟩
    .by_cases ad:j<ss.length
     .rw [yT ad] at a;show I j s' a
     .rw [Yv (by lk)] at a
      have e0:j-ss.length=0:=by
       have:=(yc.mp a).1;simp only[yC,Yn] at this;lk
      rw[e0] at a;cases a;have C:j=i:=by lk
      rw[C,aq];show⟨qda e4 (by rw[<- e4,l4];lk) (by rw[<- e4,l4];lk) ?_,?_⟩
      .rw [Xk,Xk,Xk,ay];have t1:(base.cps.toList.take at_).all sg=true:=YD.mpr fun c hc=>YD.mp ai c (List.mem_of_mem_take hc);have t2:(base.cps.toList.drop at_).all sg=true:=YD.mpr fun c hc=>YD.mp ai c (List.mem_of_mem_drop hc);rw[t1,t2];simp[aj]
      .rw [e4,YE,YE,Yv (by rw[yL];lk),yL];have:at_-min at_ base.cps.toList.length=0:=by lk
       rw[this];rfl
   .obtain⟨ss,b,g,rfl,S,r,W,G,I⟩:=hp;apply hD _ _ (q l ss _ (b1.trans7 S) r (b1.free7 A hl) A W ⟨by lk,qce fun j k s a hk=>?_,fun s hs=>?_⟩ G)
    .have ar:j<ss.length:=(yc.mp a).1;have as:k<ss.length:=(yc.mp hk).1;have e1:=(I j s a).2;rw[(I k s hk).2] at e1;show(cA_inj L (by lk) (by lk) (ym e1)).symm
    .obtain⟨j,a⟩:=yf hs;show(I j s a).1
  case cut2 =>
   intro D σ H1 h;rw[aa] at h;obtain⟨hD,x3,x4,x5,x6,x7,x8,x9,b,g,rfl,b1,hB1⟩:=h;apply⟨p,5,N+14,rfl,hB1,by decide,by decide,fun lo H2 bb b2 ak=>?_⟩;apply⟨rfl,?_⟩;apply⟨(lo:Int),rfl,by lk,by lk,?_⟩;rw[Yj];show qd4 (M:=N+10) (by lk) (ak.mono (by lk)) fun zs J l S r Z O hl=>?_;ext;obtain⟨j1,j2⟩:=qeO O;show⟨_,l,zs,rfl,rfl,SqL.of qc,by rw[qc9 fun x Y=>(O x Y).1,show("":Str).length=0 by room];lk,?_⟩;rw[Z] at j1;generalize Txt.join "" zs=base at j1 j2 ⊢;have b3:=(b1.trans7 b2).trans7 (S.new7 (o:=.lst (zs.map V.str)) hl);have B:Pn (N+10) (upd J l (.lst (zs.map V.str))) p:=r.new hl;generalize upd J l (.lst (zs.map V.str))=H3 at b3 B;apply qe0 (yP (qi (by lk))) ?_;apply⟨p,base.length+1,N+9,rfl,B,by lk,by lk,fun at_ H4 ao b4 U=>?_⟩;apply⟨p,26,N+8,rfl,U,by decide,by decide,fun first H5 hf b5 af=>?_⟩;apply⟨by show 3<=sizeLine;decide,fun m2 X=>?_⟩;have aw:=af.apart X;have s6:=qF (Sr H5) (o:=.lst (stepsA.map iV)) X;have em:upd H5 m2 (.lst (stepsA.map iV)) m2=some (.lst (stepsA.map iV)):=qc;have eu:upd H5 m2 (.lst [V.int 3,V.int 7,V.int 25])=upd H5 m2 (.lst (stepsA.map iV)):=rfl;rw[eu];generalize upd H5 m2 (.lst (stepsA.map iV))=H6 at s6 em;apply⟨p,3,N+7,rfl,af.same s6,by decide,by decide,fun d H7 hd b7 al=>?_⟩;obtain⟨st,L⟩:∃ st,stepsA[d]?=some st:=⟨_,yb hd⟩;show .inl (zd (b7 _ _ aw em) (v:=iV st) (qw (by rw[yd,L];rfl)) ?_);apply⟨p,26,N+6,rfl,al,by decide,by decide,fun e H8 he b8 am=>?_⟩;show .inl (qfO (by room) (qd0 (by lk) (by lk)) ?_);rw[Yj];ext;rw[ac];show⟨hD,_,_,_,_,base,first,at_,st,97+e,rfl,((((b3.trans7 b4).trans7 b5).trans7 fun c o _ e=>s6 c o e).trans7 b7).trans7 b8,am.mono (by lk),ye L,by lk,j2,by lk,qe4 (by lk) (by lk)⟩
  have rest:∀ J,But p H J->Pn (N+15) J p->TC2 { nx:=fun _ H'=>Q .non H',rt:=Q } (List.set (L2.start ["_law_box_here","_law_many","_law_letters","_law_base","_law_first","_law_long","_law_at_here","_law_step","_law_end","_law_names_here","_law_k","_law_sign"] [V.ref p,V.int (m:Int)]) 2 (some (V.str L26))) J:=fun J S hJ=>by
   rw[aa];show⟨fun _ _ z=>z,_,_,_,_,_,_,_,_,_,rfl,S,hJ⟩
  apply qE (fun h7=>?_) (fun h7=>?_)
  .have az:m<7:=by have:=yk h7;lk
   apply⟨p,4,N+15,rfl,hB,by decide,by decide,fun d H1 hd b1 hB1=>?_⟩;apply qel ?_;apply qE (fun h0=>?_) (fun h0=>?_)
   .ext;show⟨rfl,?_⟩;apply⟨6,rfl,by decide,by decide,?_⟩;show qd4 (n:=6) (M:=N+9) (by lk) (hB1.mono (by lk)) fun zs J l S r Z O hl=>?_;ext;obtain⟨j1,j2⟩:=qeO O;show⟨_,l,zs,rfl,rfl,SqL.of qc,by rw[qc9 fun x Y=>(O x Y).1,show("":Str).length=0 by room];lk,?_⟩;rw[Z] at j1;generalize Txt.join "" zs=base at j1 j2 ⊢;have b3:=b1.trans7 (S.new7 (o:=.lst (zs.map V.str)) hl);have B:Pn (N+9) (upd J l (.lst (zs.map V.str))) p:=r.new hl;generalize upd J l (.lst (zs.map V.str))=H3 at b3 B;apply⟨p,6,N+8,rfl,B,by decide,by decide,fun first H4 hf b4 U=>?_⟩;apply⟨(m:Int),rfl,by lk,by lk,?_⟩;rw[Yj];have lB:=j9 base;show zc (lo:=0) (n:=m) (fun i ys J=>J=H4/\∃ xs:LS,ys=xs.map V.str/\xs.length=i/\∀(j:Nat) x,xs[j]?=some x->x.length=1+(first+j) % 6/\jF x=true) ⟨rfl,[],rfl,rfl,fun j x h=>by simp at h⟩ (fun i ys J hi hs=>?_) fun ys J hs=>?_
    .obtain⟨rfl,xs,rfl,ae,Y⟩:=hs;rw[kN];apply qaC ?_;apply vI (by decide) ?_;ext;have e1:(1:Int)+((first:Int)+(i:Int)) % 6=((1+(first+i) % 6:Nat):Int):=by lk
     rw[e1];show qfP (yP (qi (by lk))) ?_;have et:=qbj base (1+(first+i) % 6);generalize Txt.slice base none (some ((1+(first+i) % 6:Nat):Int))=z at et;have lz:z.length=1+(first+i) % 6:=by rw[j9,et,yL];lk
     show⟨by rw[ya];show qi (by lk),rfl,xs++[z],by rw[yE];rfl,by rw[yz,ae];rfl,fun j x a=>?_⟩;by_cases ad:j<xs.length
     .rw [yT ad] at a;show Y j x a
     .rw [Yv (by lk)] at a
      have e0:j-xs.length=0:=by
       have:=(yc.mp a).1;simp only[yC,Yn] at this;lk
      rw[e0] at a;cases a;have C:j=i:=by lk
      rw[C];show⟨lz,qda rfl ?_ ?_ ?_⟩
      .rw [<- j9,lz];lk
      .rw [<- j9,lz];lk
      .rw [et];show YD.mpr fun c hc=>YD.mp j2 c (List.mem_of_mem_take hc)
    .obtain⟨rfl,xs,rfl,ae,Y⟩:=hs;show⟨by rw[ya];show yP (qi (by lk)),fun l5 h5=>?_⟩;have A:=U.apart h5;show q l5 xs _ ((b3.trans7 b4).new7 h5) ((U.mono (by lk)).new h5) ((b3.trans7 b4).free7 A h5) A qc ⟨by lk,qce fun j k s a hk=>?_,fun s hs=>?_⟩ ae
     .have ar:j<xs.length:=(yc.mp a).1;have as:k<xs.length:=(yc.mp hk).1;have e1:=(Y j s a).1;rw[(Y k s hk).1] at e1;lk
     .obtain⟨j,a⟩:=yf hs;show(Y j s a).2
   .ext;show rest H1 b1 hB1
  .show yq ?_;apply rest H (fun c o _ e=>e) (hB.mono (by lk))
theorem Km:FnScope ["_law_box_here","_law_names_here","_law_ties","_law_k","_law_one","_law_others","_law_other"] ["_law_box_here","_law_names_here","_law_ties"] (qg jC):=fS
theorem qde{Q:VK}(h:PL H l ts tps)(w:H a=some (.tup [.str s,.str t]))(q:Q (.bl (!decide ((s,t)∈tps))) H):qft K true (.ref a) (.ref l) H Q:=by
 have z:=pl_in (K:=K) (Q:=fun v H'=>v=.bl (decide ((s,t)∈tps))/\H'=H) h w ⟨rfl,rfl⟩;rcases z with⟨p,xs,d,_,c,_⟩ | ⟨p,o,e,g,c,_⟩ | ⟨p,xs,e,n,d,c,f,i,j,_⟩
 .cases c
 .cases e;rcases g with⟨kvs,k,e | ⟨x,e⟩,_⟩ | ⟨kvs,k,b,e | ⟨x,e⟩,_⟩<;>(rw[h.1] at e;cases e)
 .show .inr (.inr ⟨p,xs,e,n,d,c,f,i,?_⟩)
  have m:xs.any e=decide ((s,t)∈tps):=by
   have:=j;rw[yB (by decide)] at this;cases r:xs.any e<;>cases u:decide ((s,t)∈tps)<;>rw[r,u] at this<;>first | rfl | (cases this)
  rw[yG rfl,m];show q
structure DT(ss:LS)(tps:LP):Prop where
 few:tps.length<=30
 ok:∀ ab∈tps,ab.1∈ss/\ab.2∈ss/\ab.1≠ab.2
 nd:tps.Nodup
 one:∀ ab∈tps,(ab.2,ab.1)∉tps
theorem DT.nil(ss:LS):DT ss []:=⟨yU _,(fun _ h=>by cases h),.nil,(fun _ h=>by cases h)⟩
theorem DT.snoc(h:DT ss tps)(l:s∈ss)(m:t∈ss)(d:s≠t)(n:(s,t)∉tps)(f:(t,s)∉tps)(hl:tps.length<30):DT ss (tps++[(s,t)]):=by
 show⟨by rw[yz];simp;lk,fun ab c=>?_,yZ.mpr ⟨h.nd,xi _ _,fun a i b hb e=>?_⟩,fun ab c j=>?_⟩
 .rcases yH.mp c with z | z
  .show h.ok ab z
  .rw [yx.mp z];show⟨l,m,d⟩
 .rw [yx.mp hb] at e;subst e;show n i
 .rcases yH.mp c with z | z<;>rcases yH.mp j with y | y
  .show h.one ab z y
  .have e:=yx.mp y;have g:ab=(t,s):=Xu (congrArg Prod.snd e) (congrArg Prod.fst e);rw[g] at z;show f z
  .rw [yx.mp z] at y;show f y
  .rw [yx.mp z] at y;have e:=yx.mp y;show d (congrArg Prod.snd e)
def qfx(p l:Addr)(H H':Hp):Prop:=∀ c o,c≠p->c≠l->H c=some o->H' c=some o
inductive spMtA(vs:List V)(H:Hp)(Q:VK)(E:XK):Prop|mk (p n l:Addr) (ss:LS) (ts:LI) (tps:LP) (N:Nat) (_:vs=[.ref p,.ref n,.ref l]) (_:Pn (N+11) H p) (_:n≠p) (_:l≠p) (_:n≠l) (_:H n=some (.lst (ss.map V.str))) (_:NOk ss) (_:1<ss.length) (_:PL H l ts tps) (_:DT ss tps) (_:∀(ts':LI) (tps':LP) (H':Hp),qfx p l H H'->PL H' l ts' tps'->DT ss tps'->Q .non H')
inductive spTdA(vs:List V)(H:Hp)(Q:VK)(E:XK):Prop|mk (l:Addr) (ts:LI) (tps:LP) (s t:Str) (_:vs=[.ref l,.str s,.str t]) (_:PL H l ts tps) (_:∀ H',L2.Same H H'->Q (.bl (decide ((s,t)∈tps\/(t,s)∈tps))) H')
inductive spWbA(K:W.Frag)(vs:List V)(H:Hp)(Q:VK)(E:XK):Prop|mk (a:Addr) (ns:LQ) (_:vs=[.ref a,.int 14]) (_:SqL K H a (ns.map V.int)) (_:ns.length<=63) (_:∀(t n l:Addr) (ss:LS) (ts:LI) (tps:LP) (H':Hp),L2.Same H H'->H' t=some (.tup [.ref n,.ref l])->H n=none->H l=none->n≠l->H' n=some (.lst (ss.map V.str))->NOk ss->PL H' l ts tps->DT ss tps->Q (.ref t) H')
theorem ok_mtA(F:Fun K "_law_more_ties" "_law_more_ties" jC f fd)(T:Txt K mg cc cw)(kZ:DefOk P w K mg base CX0 1 "_law_take" ["_law_box_here","_law_many"] spTkN):FnOk P w K mg base CX0 2 f fd ["_law_box_here","_law_names_here","_law_ties"] spMtA:=by
 show F.ok Km fun _ _ _ _ H vs Q E hr h=>?_
 .obtain⟨p,n,l,ss,ts,tps,N,rfl,hB,al,Y,ba,hn,hO,bd,hP,hD,q⟩:=h;have hu:=zT hr;have bi:=hO.few;show⟨_,(qf (qU yW rfl (jd rfl T.b_range (qa (qq (qr (K:=K) rfl hu) (qK (qa qe (qa qe (qa qe (qa qe qd))))) (qo kZ (hmR hr) qy (qa (pv 0) (qa qe qd))) (fun _ _=>rfl)) qd)) (qu (i:=3) Km.nd rfl (yI rfl))
 (qb (qp (i:=4) Km.nd rfl (Xw rfl) (qq (qr (K:=K) rfl hu) (pv 1) (qo kZ (hmR hr) qy (qa (pv 0) (qa (qj (jw (K:=K) rfl) rfl T.b_len Yy (qa (pv 1) qd)) qd))) (fun _ _=>rfl)))
 (qb (qaz (sc:=qg jC) (XN:=["_law_box_here","_law_names_here","_law_ties","_law_k","_law_one","_law_others","_law_other"]) ["_law_name","_law_one"] 1 [4] rfl rfl rfl (by room) rfl (by room) (i:=5) Km.nd rfl rfl
  (qM (K:=K) rfl (pv 1)) (fun _ _ _ _=>(qu (i:=0) (show(["_law_name","_law_one"]:LS).Nodup by room) rfl (yI rfl))) jc
  (fun _ _ _ _=>(qah (qk (zq (K:=K) rfl hu) (pv 0) (pv 1) (qx _))))
  (fun _ _ _ _=>(pv 0)))
 (qb (qp (i:=6) Km.nd rfl (yI rfl) (qq (qr (K:=K) rfl hu) (pv 5) (qo kZ (hmR hr) qy (qa (pv 0) (qa (qj (jw (K:=K) rfl) rfl T.b_len Yy (qa (pv 5) qd)) qd))) (fun _ _=>rfl)))
 (qf (qG (PW.pt (zC (qk (jH (K:=K) rfl hu) (qV (qa (pv 4) (qa (pv 6) qd))) (pv 2) (by with_unfolding_all rfl)) (zC (qk (jH (K:=K) rfl hu) (qV (qa (pv 6) (qa (pv 4) qd))) (pv 2) (by with_unfolding_all rfl)) (zj (qk qdz (qj (jw (K:=K) rfl) rfl T.b_len Yy (qa (pv 2) qd)) qe (qx _)))))) (qf (q9 (qb2 (K:=K) rfl yO Ye Yg qL (pv 2) (qa (qV (qa (pv 4) (qa (pv 6) qd))) qd)))) qv))))))),?_⟩
  apply⟨by show 4<=sizeLine;decide,fun m2 ai=>?_⟩;have az:=hB.apart ai;have s1:=qF (Sr H) (o:=.lst [.int 1,.int 1,.int 2,.int 5]) ai;have em:upd H m2 (.lst [.int 1,.int 1,.int 2,.int 5]) m2=some (.lst [.int 1,.int 1,.int 2,.int 5]):=qc;generalize upd H m2 (.lst [.int 1,.int 1,.int 2,.int 5])=H1 at s1 em;apply⟨p,4,N+10,rfl,hB.same s1,by decide,by decide,fun d H2 hd b2 au=>?_⟩
  obtain⟨B,bh,bj⟩:∃ B:Nat,[V.int 1,.int 1,.int 2,.int 5][d]?=some (.int (B:Int))/\B<=5:=by
   have h4:d=0\/d=1\/d=2\/d=3:=by lk
   rcases h4 with rfl | rfl | rfl | rfl
   .show⟨1,rfl,by decide⟩
   .show⟨1,rfl,by decide⟩
   .show⟨2,rfl,by decide⟩
   .show⟨5,rfl,by decide⟩
  show .inl (zd (b2 _ _ az em) (v:=.int (B:Int)) (qw bh) ?_);apply⟨(B:Int),rfl,by lk,by lk,?_⟩;rw[Yj];have O:But p H H2:=fun c o hc e=>b2 c o hc (s1 c o e);show zZ (lo:=0) (n:=B) (fun i σ J=>i<=B/\qfx p l H J/\Pn (N+2*(B-i)) J p/\(∃ m j,PL J l m j/\DT ss j)/\∃ y3 y4 y5 y6,σ=[some (.ref p),some (.ref n),some (.ref l),y3,y4,y5,y6]) ⟨yU _,fun c o hc _ e=>O c o hc e,au.mono (by lk),⟨ts,tps,⟨O _ _ Y hP.1,hP.2.mono fun t ab z=>O _ _ (fun e=>by obtain⟨u,v,w,e2,_⟩:=hB;rw[e,e2] at z;cases z) z⟩,hD⟩,_,_,_,_,rfl⟩ (fun i σ J hi hp=>?_) fun σ J hp=>?_
  .obtain⟨_,bJ,W,⟨m,j,L,I⟩,y3,y4,y5,y6,rfl⟩:=hp;have ak:=bJ _ _ al ba hn;apply ze ak ?_;rw[ya];apply⟨p,ss.length,N+2*(B-i)-1,rfl,W.mono (by lk),by lk,by lk,fun d1 J1 aw b1 hB1=>?_⟩;obtain⟨s',am⟩:∃ s',ss[d1]?=some s':=⟨_,yb aw⟩;have Z:=b1 _ _ al ak;show .inl (zd Z (v:=.str s') (qw (by rw[yd,am];rfl)) ?_);apply .inl ⟨⟨_,.of Z⟩,jJ (xs:=ss.map V.str) (fun i ys G=>G=J1/\ys=((ss.take i).filter fun x=>decide (x≠s')).map V.str) ⟨rfl,rfl⟩ (fun i ys G _ D=>by rw[D.1];show .of Z) (fun i y ys G hy D=>?_) fun ys G D=>?_⟩
   .obtain⟨rfl,rfl⟩:=D;rw[yd] at hy;obtain⟨x,hx,rfl⟩:=yn.mp hy;have bm:i<ss.length:=(yc.mp hx).1;have ag:((ss.take i).filter fun x=>decide (x≠s')).length<=14:=yi (YB _ _) (by rw[yL];lk);rw[yR,hx,xQ];apply vNeS ?_;show⟨_,rfl,qE (fun ho=>?_) (fun ho=>?_)⟩
    .ext;show⟨by rw[ya];show qi (by lk),rfl,?_⟩;have ac:x≠s':=fun e=>by rw[e] at ho;simp at ho
     show _=List.map V.str (_++[x].filter _);rw[YM,yG (yD ac),yE];rfl
    .show⟨rfl,?_⟩
     have ac:x=s':=by
      cases e:decide (x=s') with
      | true=>show yk e
      | false=>rw[e] at ho;show absurd rfl ho
     show _=List.map V.str (_++[x].filter _);rw[YM,yB (by rw[ac];simp),Xj,Yt]
   .obtain⟨rfl,rfl⟩:=D;rw[show(ss.map V.str).length=ss.length from ya ..,Yc];have ag:(ss.filter fun x=>decide (x≠s')).length<=14:=yi (YB _ _) (by lk);have aj:∀ x∈ss.filter fun x=>decide (x≠s'),x∈ss/\x≠s':=fun x hx=>⟨(yp.mp hx).1,yk (yp.mp hx).2⟩
    have bc:0<(ss.filter fun x=>decide (x≠s')).length:=by
     obtain⟨y,hy,aa⟩:∃ y∈ss,y≠s':=by
      show Yp fun bb=>?_;have A:∀ y∈ss,y=s':=fun y hy=>Yp fun aa=>bb ⟨y,hy,aa⟩
      match ss,bd,hO.nd,A with
      | a::b::r,_,hnd,A =>
       have e1:=A a (by simp);have e2:=A b (by simp);rw[e1,e2] at hnd;simp at hnd
     show List.length_pos_of_mem (yp.mpr ⟨hy,yD aa⟩)
    generalize (ss.filter fun x=>decide (x≠s'))=os at ag aj bc;show⟨by rw[ya];show yP (qi (by lk)),fun g hg=>?_⟩;have ay:=hB1.apart hg;have s3:=qF (Sr G) (o:=.lst (os.map V.str)) hg;have eg:upd G g (.lst (os.map V.str)) g=some (.lst (os.map V.str)):=qc;generalize upd G g (.lst (os.map V.str))=J2 at s3 eg;apply ze eg ?_;rw[ya];apply⟨p,os.length,N+2*(B-i)-2,rfl,(hB1.same s3).mono (by lk),by lk,by lk,fun d2 M ax b3 ae=>?_⟩;obtain⟨t',an⟩:∃ t',os[d2]?=some t':=⟨_,yb ax⟩;show .inl (zd (b3 _ _ ay eg) (v:=.str t') (qw (by rw[yd,an];rfl)) ?_);obtain⟨be,bf⟩:=aj t' (ye an);have R:But p J M:=(b1.trans7 fun c o _ e=>s3 c o e).trans7 b3;have ar:∀{t:Addr} {ab:Str×Str},J t=some (.tup [.str ab.1,.str ab.2])->t≠p:=fun z e=>by obtain⟨u,v,w,e2,_⟩:=W;rw[e,e2] at z;cases z
    have s:PL M l m j:=⟨R _ _ Y L.1,L.2.mono fun t ab z=>R _ _ (ar z) z⟩;have ad:qfx p l H M:=fun c o h1 U e=>R _ _ h1 (bJ c o h1 U e);apply⟨by show 2<=sizeLine;decide,fun t1 ao=>?_⟩;have s4:=qF (Sr M) (o:=.tup [.str s',.str t']) ao;have e4:upd M t1 (.tup [.str s',.str t']) t1=some (.tup [.str s',.str t']):=qc;generalize upd M t1 (.tup [.str s',.str t'])=J4 at s4 e4;apply qde (s.same s4) e4 ?_
    have S:∀(G5:Hp),L2.Same M G5->i+1<=B/\qfx p l H G5/\Pn (N+2*(B-(i+1))) G5 p/\(∃ m j,PL G5 l m j/\DT ss j)/\∃ y3 y4 y5 y6,[some (V.ref p),some (V.ref n),some (V.ref l),some (V.int (0+(i:Int))),some (.str s'),some (.ref g),some (.str t')]=[some (V.ref p),some (V.ref n),some (V.ref l),y3,y4,y5,y6]:=fun G5 s5 =>
     ⟨hi,fun c o h1 U e=>s5 _ _ (ad c o h1 U e),(ae.same s5).mono (by lk),⟨m,j,s.same s5,I⟩,_,_,_,_,rfl⟩
    apply qE (fun h1=>?_) (fun h1=>?_)
    .ext;show⟨by show 2<=sizeLine;decide,fun t2 ap=>?_⟩;have s5:=qF (Sr J4) (o:=.tup [.str t',.str s']) ap;have e5:upd J4 t2 (.tup [.str t',.str s']) t2=some (.tup [.str t',.str s']):=qc;generalize upd J4 t2 (.tup [.str t',.str s'])=J5 at s5 e5;have C:=s4.trans s5;apply qde (s.same C) e5 ?_;apply qE (fun U=>?_) (fun U=>?_)
     .ext;show ze ((s.same C).1) ?_;rw[ya,s.2.len];apply qE (fun h3=>?_) (fun h3=>?_)
      .have as:j.length<30:=by have:=yk h3;lk
       apply⟨.inl ⟨rfl,_,.of (s.same C).1⟩,?_⟩;apply⟨by show 2<=sizeLine;decide,fun t3 bg=>?_⟩;have s6:=qF C (o:=.tup [.str s',.str t']) bg;have e6:upd J5 t3 (.tup [.str s',.str t']) t3=some (.tup [.str s',.str t']):=qc;generalize upd J5 t3 (.tup [.str s',.str t'])=J6 at s6 e6;have X:=s.same s6;apply⟨l,_,_,rfl,rfl,X.1,by rw[ya,s.2.len];show qi (by lk),?_⟩;have aq:∀{c:Addr} {ab:Str×Str},J6 c=some (.tup [.str ab.1,.str ab.2])->c≠l:=fun e z=>by rw[z,X.1] at e;cases e
       have n1:(s',t')∉j:=fun z=>by rw[yD z] at h1;cases h1
       have n2:(t',s')∉j:=fun z=>by rw[yD z] at U;cases U
       show⟨hi,fun c o av af e=>by rw[qh af];show s6 _ _ (ad c o av af e),?_,⟨m++[t3],j++[(s',t')],⟨by rw[qc,yE];rfl,?_⟩,I.snoc (ye am) be (Yq bf) n1 n2 as⟩,_,_,_,_,rfl⟩
       .obtain⟨a1,a2,a3,a4,a5⟩:=(ae.same s6).mono (show N+2*(B-(i+1))<=N+2*(B-i)-2 by lk);show⟨a1,a2,a3,by rw[qh (Yq Y)];show a4,a5⟩
       .show All2.snoc (X.2.mono fun c ab z=>by rw[qh (aq z)];show z) ?_;rw[qh (aq (ab:=(s',t')) e6)];show e6
      .show S J5 C
     .show yq ?_;apply S J5 C
    .show yq ?_;apply S J4 s4
  .obtain⟨_,bJ,W,⟨m,j,L,I⟩,y3,y4,y5,y6,rfl⟩:=hp;show q m j J bJ L I
theorem KC:FnScope ["_law_script","_law_most","_law_box_here","_law_names_here","_law_ties","_law_cell"] ["_law_script","_law_most"] (qg qbz):=fS
theorem ok_wbA(F:Fun K "_law_web" "_law_web" qbz f fd)(T:Txt K mg cc cw)(KL:DefOk P w K mg base CX0 1 "_law_at" ["_law_script","_law_k"] (spCe K))(KP:DefOk P w K mg base CX0 1 "_law_box" ["_law_cell"] spPu)(kZ:DefOk P w K mg base CX0 1 "_law_take" ["_law_box_here","_law_many"] spTkN)
  (KM:DefOk P w K mg base CX0 2 "_law_names" ["_law_box_here","_law_many"] spNmA) (ub:DefOk P w K mg base CX0 2 "_law_more_ties" ["_law_box_here","_law_names_here","_law_ties"] spMtA):FnOk P w K mg base CX0 3 f fd ["_law_script","_law_most"] (spWbA K):=by
 show F.ok KC fun _ _ _ _ H vs Q E u h=>?_
 .obtain⟨a,r,rfl,hS,bb,q⟩:=h;have hu:=zT u;show⟨_,(qb (qp (i:=2) KC.nd rfl (yI rfl) (qo KP (hmR u) qy (qa (qo KL (hmR u) qy (qa (pv 0) (qa qe qd))) qd)))
 (qb (qp (i:=3) KC.nd rfl (yI rfl) (qo KM (hmR u) qy (qa (pv 2) (qa (qo kZ (hmR u) qy (qa (pv 2) (qa (qq (qr (K:=K) rfl hu) (qK (qa qe (qa qe (qa qe (qa qe (qa (qA (jT (K:=K) rfl) (pv 1) qe) qd)))))) (qo kZ (hmR u) qy (qa (pv 2) (qa qe qd))) (fun _ _=>rfl)) qd))) qd))))
 (qb (qp (i:=4) KC.nd rfl (yI rfl) (qK qd))
 (qb (qU yW rfl (qM (K:=K) rfl (qA (jT (K:=K) rfl) (qaG (qfA (K:=K) rfl) (pv 0) (jR qe) (jR qe)) (qK (qa (qo KL (hmR u) qy (qa (pv 0) (qa qe qd))) (qa (qo KL (hmR u) qy (qa (pv 0) (qa qe qd))) qd))))) (qu (i:=5) KC.nd rfl (yI rfl))
 (qf (qG (qk qbp (qj (jw (K:=K) rfl) rfl T.b_len Yy (qa (pv 3) qd)) qe (qx _)) (qf (q9 (qo ub (hmR u) qy (qa (qo KP (hmR u) qy (qa (pv 5) qd)) (qa (pv 3) (qa (pv 4) qd)))))) qv)))
 (qf (qt (qV (qa (pv 3) (qa (pv 4) qd))))))))),?_⟩
  apply⟨a,r,0,rfl,hS,by decide,fun c0=>?_⟩;apply⟨c0,rfl,fun p H1 s1 I hB1=>?_⟩;apply⟨by show 5<=sizeLine;decide,fun m2 Y=>?_⟩;have av:=hB1.apart Y;have s2:=qF (Sr H1) (o:=.lst ([5,8,8,8,15].map iV)) Y;have em:upd H1 m2 (.lst ([5,8,8,8,15].map iV)) m2=some (.lst ([5,8,8,8,15].map iV)):=qc;have eu:upd H1 m2 (.lst [V.int 5,V.int 8,V.int 8,V.int 8,V.int (14+1)])=upd H1 m2 (.lst ([5,8,8,8,15].map iV)):=rfl;rw[eu];generalize upd H1 m2 (.lst ([5,8,8,8,15].map iV))=H2 at s2 em;apply⟨p,5,999999999999,rfl,hB1.same s2,by decide,by decide,fun d H3 hd b3 ao=>?_⟩;obtain⟨x,M⟩:∃ x,[5,8,8,8,15][d]?=some x:=⟨_,yb (by simpa using hd)⟩
  have ac:0<x/\x<=15:=by
   have:=ye M;simp only[yA,yS,YN] at this;lk
  show .inl (zd (b3 _ _ av em) (v:=iV x) (qw (by rw[yd,M];rfl)) ?_);apply⟨p,x,999999999998,rfl,ao,ac.1,by lk,fun m H4 hm b4 ap=>?_⟩;apply⟨p,m,1,rfl,ap.mono (by decide),by lk,fun n ss N b5 aq aw bd D hO bf=>?_⟩;apply⟨by show 0<=sizeLine;decide,fun l hl=>?_⟩;have bc:=aq.apart hl;have A:n≠l:=fun z=>by rw[z,hl] at D;cases D
  have ag:But p H1 H3:=fun c o hc e=>b3 c o hc (s2 c o e);have ai:But p H1 N:=(ag.trans7 b4).trans7 b5;have ad:L2.Same H N:=fun c o e=>ai c o (fun z=>by rw[z,I] at e;cases e) (s1 c o e);have W:=ad.free hl
  have ax:H n=none:=by
   show(Same.free (H':=H4) (fun c o e=>b4 c o (fun z=>by rw[z,I] at e;cases e) (b3 c o (fun z=>by rw[z,I] at e;cases e) (s2 c o (s1 c o e)))) aw)
  have s6:=qF (Sr N) (o:=.lst ([]:List V)) hl;have s:=ad.trans s6;have el:upd N l (.lst []) l=some (.lst ([]:List V)):=qc;have Z:=s6 _ _ D;generalize upd N l (.lst [])=H6 at s6 s el Z;apply .inl ⟨a,_,rfl,s.seq hS,fun k au=>?_⟩
  obtain⟨j,al,be⟩:∃ j:LQ,qeo (r.map V.int) (some 1) (some 61)=j.map V.int/\j.length<=60:=by
   show⟨(r.drop (HT.sIx r.length 0 (some 1))).take (HT.sIx r.length r.length (some 61)-HT.sIx r.length 0 (some 1)),?_,?_⟩
   .unfold qeo;rw[ya,<- List.map_drop,<- List.map_take]
   .rw [yL];have h1:=HT.sIx_nat r.length r.length 61;have h2:=HT.sIx_nat r.length 0 1;rw[show((61:Nat):Int)=61 from rfl] at h1;rw[show((1:Nat):Int)=1 from rfl] at h2;rw[h1,h2];lk
  rw[al];have s7:=qF (Sr H6) (o:=.lst (j.map V.int)) au;have S:upd H6 k (.lst (j.map V.int)) k=some (.lst (j.map V.int)):=qc;generalize upd H6 k (.lst (j.map V.int))=H7 at s7 S;apply⟨a,r,61,rfl,(s.trans s7).seq hS,by decide,fun b=>?_⟩;apply⟨a,r,62,rfl,(s.trans s7).seq hS,by decide,fun g=>?_⟩;apply⟨by show 2<=sizeLine;decide,fun k2 R=>?_⟩;have s8:=qF (Sr H7) (o:=.lst [.int b,.int g]) R;have U:upd H7 k2 (.lst [.int b,.int g]) k2=some (.lst [.int b,.int g]):=qc;generalize upd H7 k2 (.lst [.int b,.int g])=H8 at s8 U;show .inl ⟨k,k2,_,_,rfl,rfl,s8 _ _ S,U,by rw[ya];show yP (qi (by simp only[yC,Yn];lk)),fun lc C=>?_⟩;have aj:j.map V.int++[.int b,.int g]=(j++[b,g]).map V.int:=by rw[yE];rfl
  rw[aj];have ae:=s7.trans s8;have s9:=qF ae (o:=.lst ((j++[b,g]).map V.int)) C;have e9:upd H8 lc (.lst ((j++[b,g]).map V.int)) lc=some (.lst ((j++[b,g]).map V.int)):=qc;have X:lc≠l:=fun z=>by rw[z,ae _ _ el] at C;cases C
  generalize upd H8 lc (.lst ((j++[b,g]).map V.int))=H9 at s9 e9;generalize j++[b,g]=cs at e9;have aa:=s9 _ _ Z;have ak:=s9 _ _ el;show .inl ⟨⟨_,.of e9⟩,qR (xs:=cs.map V.int) (fun i σ J=>But l H9 J/\(∃ ts tps,PL J l ts tps/\DT ss tps)/\∃ y2 y5,σ=[some (.ref a),some (.int 14),y2,some (.ref n),some (.ref l),y5]) ⟨fun c o _ e=>e,⟨[],[],⟨ak,.nil⟩,DT.nil ss⟩,_,_,rfl⟩ (fun i σ J _ hp=>.of (hp.1 _ _ X e9)) (fun i y σ J hy hp=>?_) fun σ J hp=>?_⟩
  .obtain⟨B,⟨ts,tps,O,hD⟩,y2,y5,rfl⟩:=hp;rw[yd] at hy;obtain⟨c,hc,rfl⟩:=yn.mp hy;have G:=B _ _ A aa;apply ze G ?_;rw[ya];apply qE (fun h1=>?_) (fun h1=>?_)
   .have am:1<ss.length:=by have:=yk h1;lk
    apply⟨c,rfl,fun p2 J1 L ay an=>?_⟩;have ne:∀{x:Addr} {o:HO},J x=some o->x≠p2:=fun e z=>by rw[z,ay] at e;cases e
    apply⟨p2,n,l,ss,ts,tps,1,rfl,an.mono (by decide),ne G,ne O.1,A,L _ _ G,hO,am,O.same L,hD,fun ba af J2 b2 as ar=>?_⟩;apply⟨fun x o M e=>b2 x o (ne (B x o M e)) M (L _ _ (B x o M e)),⟨ba,af,as,ar⟩,_,_,rfl⟩
   .show⟨B,⟨ts,tps,O,hD⟩,_,_,rfl⟩
  .obtain⟨B,⟨ts,tps,O,hD⟩,y2,y5,rfl⟩:=hp;apply⟨by show 2<=sizeLine;decide,fun t ht=>?_⟩;have sT:=qF (Sr J) (o:=.tup [.ref n,.ref l]) ht;have az:L2.Same H J:=fun c o e=>B c o (fun z=>by rw[z,W] at e;cases e) (s9 _ _ (s c o e));show q t n l ss ts tps _ (az.trans sT) qc ax W A (sT _ _ (B _ _ A aa)) hO (O.same sT) hD
theorem Kr:FnScope ["_law_box_here","_law_ties","_law_left","_law_free","_law_pairs_here","_law_one","_law_other"] ["_law_box_here","_law_ties"] (qg qap):=fS
theorem Kt:FnScope ["_law_pairs_here","_law_found","_law_one","_law_other"] ["_law_pairs_here"] (qg j6):=fS
theorem qe5{c:TE}{b:TGs}{D:Ends}{a:L2.St}(h:c a H fun x H1=>qfD K n b x a H1 D.nx):qe6 c (qfD K n b) D a H:=h
structure DP(tps qs:LP):Prop where
 nd:(qm qs).Nodup
 ok:∀ q∈qs,q∈tps\/(q.2,q.1)∈tps
 few:qs.length<=30
inductive spPrA(vs:List V)(H:Hp)(Q:VK)(E:XK):Prop|mk (p l:Addr) (ss:LS) (ts:LI) (tps:LP) (N:Nat) (_:vs=[.ref p,.ref l]) (_:Pn (N+90) H p) (_:l≠p) (_:PL H l ts tps) (_:DT ss tps) (_:∀(r:Addr) (us:LI) (qs:LP) (H':Hp),But p H H'->Pn N H' p->H r=none->r≠p->PL H' r us qs->DP tps qs->Q (.ref r) H')
inductive spPtA(vs:List V)(H:Hp)(Q:VK)(E:XK):Prop|mk (r:Addr) (us:LI) (qs:LP) (_:vs=[.ref r]) (_:PL H r us qs) (_:(qm qs).Nodup) (_:qs.length<=1000) (_:∀(d:Addr) (H':Hp),L2.Same H H'->H d=none->H' d=some (.dK (prK qs))->Q (.ref d) H')
theorem qeP{k:Nat}(h:k<n):seqIndex? (k:Int) n=some k:=by
 unfold seqIndex?;simp;lk
theorem ok_ptA(F:Fun K "_law_partners" "_law_partners" j6 f fd)(T:Txt K mg cc cw):FnOk P w K mg base CX0 1 f fd ["_law_pairs_here"] spPtA:=by
 show F.ok Kt fun _ _ _ _ H vs Q E N h=>?_
 .obtain⟨r,us,qs,rfl,c,t,M,q⟩:=h;have C:=zT N;show⟨_,(qb (qp (i:=1) Kt.nd rfl (yI rfl) ju)
 (qb (qU yW rfl (ki_lst (K:=K) rfl (pv 0)) (qa9 rfl (qQ (qu (i:=2) Kt.nd rfl (yI rfl)) (qQ (qu (i:=3) Kt.nd rfl (yI rfl)) qaw)))
 (qb (qT (pv 3) (jp (pv 1) (pv 2) (jq C)))
 (qf (qT (pv 2) (jp (pv 1) (pv 3) (jq C))))))
 (qf (qt (pv 1))))),?_⟩
  ext;intro d l;have u:=qF (Sr H) (o:=.dK []) l;have A:upd H d (.dK []) d=some (.dK (prK [])):=qc;generalize upd H d (.dK [])=H1 at u A;apply viLst ?_;apply⟨r,_,rfl,.of (u _ _ c.1),qR (xs:=us.map V.ref) (fun i n J=>L2.Same H J/\∃ v x,n=[some (.ref r),some (.ref d),v,x]/\J d=some (.dK (prK (qs.take i)))) ⟨u,_,_,rfl,A⟩ (fun i n J _ g=>.of (g.1 _ _ c.1)) (fun i y n J D g=>?_) fun n J g=>?_⟩
  .obtain⟨m,v,x,rfl,a⟩:=g;rw[yd] at D;obtain⟨b,hb,rfl⟩:=yn.mp D;have p:i<qs.length:=by rw[<- c.2.len];show(yc.mp hb).1
   obtain⟨ab,e⟩:∃ ab,qs[i]?=some ab:=⟨_,yb p⟩;have I:=m _ _ (c.2.at_ i b ab hb e);have j:qs.take (i+1)=qs.take i++[ab]:=by rw[yR,e];rfl
   have s:(qm (qs.take i++[ab])).Nodup:=by
    rw[<- j];have:qm qs=qm (qs.take (i+1))++qm (qs.drop (i+1)):=by unfold qm;rw[<- Xe,xW]
    have B:=t;rw[this] at B;show(yZ.mp B).1
   have L:(prK (qs.take i)).length<=2000:=by rw[qd1,yL];lk
   show⟨b,_,rfl,.of I,rfl,_,_,rfl,_,_,rfl,rfl,?_⟩;apply .inr ⟨d,_,rfl,DPut.k (k:=Sum.inr ab.1) a (by rw[Ys];lk),?_⟩;have G:=qdW m (o:=.dK (qab (prK (qs.take i)) (Sum.inr ab.1) (.str ab.2))) l;have z:upd J d (.dK (qab (prK (qs.take i)) (Sum.inr ab.1) (.str ab.2))) d=some (.dK (qab (prK (qs.take i)) (Sum.inr ab.1) (.str ab.2))):=qc;generalize upd J d (.dK (qab (prK (qs.take i)) (Sum.inr ab.1) (.str ab.2)))=O at G z;apply .inr ⟨d,_,rfl,DPut.k (k:=Sum.inr ab.2) z ?_,?_⟩
   .have:=jS (prK (qs.take i)) (Sum.inr ab.1:Key) (.str ab.2);rw[Ys];lk
   .show⟨qdW G l,_,_,rfl,by rw[qc,qd2 s,j]⟩
  .obtain⟨m,v,x,rfl,a⟩:=g;rw[show(us.map V.ref).length=qs.length by rw[ya,c.2.len],Yc] at a;apply q d J m l a
theorem ok_prA(F:Fun K "_law_pairs" "_law_pairs" qap f fd)(T:Txt K mg cc cw)(kZ:DefOk P w K mg base CX0 1 "_law_take" ["_law_box_here","_law_many"] spTkN):FnOk P w K mg base CX0 2 f fd ["_law_box_here","_law_ties"] spPrA:=by
 show F.ok Kr fun _ _ _ _ H vs Q E hr h=>?_
 .obtain⟨p,l,ss,ts,tps,N,rfl,hB,de,hP,hD,q⟩:=h;have hu:=zT hr;have da:=hD.few;show⟨_,(qb (qp (i:=2) Kr.nd rfl (yI rfl) (je (zW (K:=K) rfl rfl) rfl T.b_list xv (qa (pv 1) qd)))
 (qb (qp (i:=3) Kr.nd rfl (yI rfl) ju)
 (qb (qp (i:=4) Kr.nd rfl (yI rfl) (qK qd))
 (qb (qcK yW (qk (zq (K:=K) rfl hu) (pv 2) (qK qd) (qx _))
 (qb (qT (qb2 (K:=K) rfl yO XB XC qb6 (pv 2) (qa (qo kZ (hmR hr) qy (qa (pv 0) (qa (qj (jw (K:=K) rfl) rfl T.b_len Yy (qa (pv 2) qd)) qd))) qd)) (qa9 rfl (qQ (qu (i:=5) Kr.nd rfl (yI rfl)) (qQ (qu (i:=6) Kr.nd rfl (yI rfl)) qaw))))
 (qf (qG (PW.pt (zC (qk (jH (K:=K) rfl hu) (pv 5) (pv 3) (by with_unfolding_all rfl)) (zC (qk (jH (K:=K) rfl hu) (pv 6) (pv 3) (by with_unfolding_all rfl)) (zj (qk qbp (qo kZ (hmR hr) qy (qa (pv 0) (qa qe qd))) qe (qx _)))))) (qb (qT jr (jp (pv 3) (pv 5) (jq hu)))
 (qb (qT jr (jp (pv 3) (pv 6) (jq hu)))
 (qf (q9 (qb2 (K:=K) rfl yO Ye Yg qL (pv 4) (qa (qq (qr (K:=K) rfl hu) (qK (qa (qV (qa (pv 5) (qa (pv 6) qd))) (qa (qV (qa (pv 6) (qa (pv 5) qd))) qd))) (qo kZ (hmR hr) qy (qa (pv 0) (qa qe qd))) (fun _ _=>rfl)) qd)))))) qv))))
 (qf (qt (pv 4))))))),?_⟩
  apply .inl ⟨l,_,rfl,.inl (.of hP.1),fun j bi=>?_⟩;have aq:=hB.apart bi;have s1:=qF (Sr H) (o:=.lst (ts.map V.ref)) bi;have e1:upd H j (.lst (ts.map V.ref)) j=some (.lst (ts.map V.ref)):=qc;generalize upd H j (.lst (ts.map V.ref))=H1 at s1 e1;ext;intro a ae;have s2:=qF (Sr H1) (o:=.dK []) ae;have S:upd H1 a (.dK []) a=some (.dK (j8 [])):=qc;generalize upd H1 a (.dK [])=H2 at s2 S;apply⟨by show 0<=sizeLine;decide,fun s D=>?_⟩;have s3:=qF (Sr H2) (o:=.lst []) D;have e3:upd H2 s (.lst []) s=some (.lst (([]:LI).map V.ref)):=qc;generalize upd H2 s (.lst [])=H3 at s3 e3;have bq:=s1.trans s2;have br:=bq.trans s3;have cd:=s1.free ae;have ay:=bq.free D;have ai:=(hB.same bq).apart D;have ci:j≠s:=fun z=>by rw[<- z,s2 _ _ e1] at D;cases D
  have ch:a≠s:=fun z=>by rw[<- z,S] at D;cases D
  have cg:a≠j:=fun z=>by rw[z,e1] at ae;cases ae
  have ap:=(hB.same s1).apart ae;ext;obtain⟨W,am⟩:∃ W:Nat->L2.St->Hp->Prop,W=fun m σ J=>∃(us:LI) (b qs:LP) (ps:LI) (seen:LS) (y5 y6:Option V),σ=[some (.ref p),some (.ref l),some (.ref j),some (.ref a),some (.ref s),y5,y6]/\But p H J/\PL J j us b/\(∀ ab∈b,ab∈tps)/\J a=some (.dK (j8 seen))/\(∀ n,n∈seen↔n∈qm qs)/\seen.length<=60/\PL J s ps qs/\(qm qs).Nodup/\(∀ q∈qs,q∈tps\/(q.2,q.1)∈tps)/\qs.length+us.length<=30/\seen.length=2*qs.length/\Pn (N+3*us.length) J p/\us.length<=m:=⟨_,rfl⟩;show⟨W,⟨ts.length,by rw[am];show⟨ts,tps,[],[],[],_,_,rfl,fun c o _ e=>br c o e,⟨s3 _ _ (s2 _ _ e1),hP.2.mono fun _ _ z=>br _ _ z⟩,fun _ h=>h,s3 _ _ S,fun n=>Iff.rfl,by decide,⟨e3,.nil⟩,.nil,(fun _ h=>by cases h),by have:=hP.2.len;simp;lk,rfl,(hB.same br).mono (by have:=hP.2.len;lk),yh _⟩⟩,fun m σ J hW=>?_⟩;rw[am] at hW;obtain⟨us,b,qs,ps,seen,y5,y6,rfl,bJ,C,cf,cp,af,cx,bh,bj,bm,dh,cv,bg,hm⟩:=hW;have di:=C.2.len;apply⟨by show 0<=sizeLine;decide,fun e cs=>?_⟩;have s4:=qF (Sr J) (o:=.lst []) cs;have ee:upd J e (.lst []) e=some (.lst []):=qc;generalize upd J e (.lst [])=J4 at s4 ee;show qdb (s4 _ _ C.1) ee ?_
  cases us with
  | nil =>
   apply yq ?_;ext;have b4:But p H J4:=fun c o hc z=>s4 _ _ (bJ c o hc z);show q s ps qs J4 b4 ((bg.same s4).mono (by simp)) ay ai (bh.same s4) ⟨bj,bm,by lk⟩
  | cons u0 us0 =>
   have dj:(u0::us0).length<=30:=by lk
   generalize O:(u0::us0).length=X at *;have df:0<X:=by rw[<- O];simp
   generalize u0::us0=us at *
   have ct:(!(us.map V.ref).isEmpty)=true:=by
    cases us with
    | nil=>simp at O;lk
    | cons _ _=>rfl
   rw[ct];apply qaC ⟨fun cm H'=>∃ m',m'<m/\W m' cm H',fun cm H' z=>z,?_⟩;apply qe5 ?_;apply⟨.inl ⟨rfl,_,.of (s4 _ _ C.1)⟩,?_⟩;apply ze (s4 _ _ C.1) ?_;rw[ya,O];apply⟨p,X,N+3*X-1,rfl,(bg.same s4).mono (by lk),by lk,by lk,fun d J5 hd b5 cr=>?_⟩;have cj:∀{c:Addr} {ab:Str×Str},J c=some (.tup [.str ab.1,.str ab.2])->c≠p:=fun z e=>by obtain⟨u,v,w,S,_⟩:=bg;rw[e,S] at z;cases z
   have R:But p J J5:=fun c o hc z=>b5 _ _ hc (s4 c o z);have I:PL J5 j us b:=⟨R _ _ aq C.1,C.2.mono fun _ _ z=>R _ _ (cj z) z⟩;have aw:PL J5 s ps qs:=⟨R _ _ ai bh.1,bh.2.mono fun _ _ z=>R _ _ (cj z) z⟩;have bx:=R _ _ ap cp;obtain⟨u,ce⟩:∃ u,us[d]?=some u:=⟨_,yb (by lk)⟩;obtain⟨ab,cb⟩:∃ ab,b[d]?=some ab:=⟨_,yb (by rw[<- C.2.len];lk)⟩;have bz:=I.2.at_ d u ab ce cb;have ad:=cf ab (ye cb);show⟨j,_,(d:Int),d,.ref u,rfl,rfl,I.1,by lk,by lk,qeP (by rw[ya];lk),by rw[yd,ce];rfl,?_⟩;rw[qa1];have bo:∀{c:Addr} {q:Str×Str},J5 c=some (.tup [.str q.1,.str q.2])->c≠j:=fun z e=>by rw[e,I.1] at z;cases z
   have e6:upd J5 j (.lst ((us.eraseIdx d).map V.ref)) j=some (.lst ((us.eraseIdx d).map V.ref)):=qc;have k6:∀ c o,c≠j->J5 c=some o->upd J5 j (.lst ((us.eraseIdx d).map V.ref)) c=some o:=fun c o hc z=>by rw[qh hc];show z
   generalize upd J5 j (.lst ((us.eraseIdx d).map V.ref))=Y at e6 k6;have L:PL Y j (us.eraseIdx d) (b.eraseIdx d):=⟨e6,(I.2.erase d).mono fun _ _ z=>k6 _ _ (bo z) z⟩;have M:PL Y s ps qs:=⟨k6 _ _ (Yq ci) aw.1,aw.2.mono fun _ _ z=>k6 _ _ (bo z) z⟩;have G:=k6 _ _ cg bx;have cq:=k6 _ _ (bo bz) bz
   have aa:Pn (N+3*X-1) Y p:=by
    obtain⟨a1,a2,a3,a4,a5⟩:=cr;show⟨a1,a2,a3,k6 _ _ (Yq aq) a4,a5⟩
   have bv:But p H Y:=fun c o hc z=>k6 _ _ (fun e=>by rw[e,bi] at z;cases z) (R _ _ hc (bJ c o hc z));have dd:(us.eraseIdx d).length=X-1:=by rw[XS,O,yG (by lk)]
   have az:∀ q∈b.eraseIdx d,q∈tps:=fun q hq=>cf q (List.mem_of_mem_eraseIdx hq)
   have be:∀ B,But p Y B->Pn (N+3*X-3) B p->(∀ c o,c=j\/c=a\/c=s->Y c=some o->B c=some o)->∃ m',m'<m/\W m' [some (V.ref p),some (.ref l),some (.ref j),some (.ref a),some (.ref s),some (.str ab.1),some (.str ab.2)] B:=fun B Z al k7=>by
    have A:∀{c:Addr} {ab:Str×Str},Y c=some (.tup [.str ab.1,.str ab.2])->c≠p:=fun z e=>by obtain⟨u,v,w,S,_⟩:=aa;rw[e,S] at z;cases z
    show⟨X-1,by lk,?_⟩;rw[am];show⟨us.eraseIdx d,b.eraseIdx d,qs,ps,seen,_,_,rfl,bv.trans7 Z,⟨k7 _ _ (.inl rfl) L.1,L.2.mono fun _ _ z=>Z _ _ (A z) z⟩,az,k7 _ _ (.inr (.inl rfl)) G,af,cx,⟨k7 _ _ (.inr (.inr rfl)) M.1,M.2.mono fun _ _ z=>Z _ _ (A z) z⟩,bj,bm,by lk,cv,al.mono (by lk),by lk⟩
   show⟨u,_,rfl,.of cq,rfl,_,_,rfl,_,_,rfl,rfl,?_⟩;have bw:∀ n:Str,(zi (j8 seen) (Sum.inr n:Key)).isSome=decide (n∈qm qs):=fun n=>by rw[jA];show YS.mpr (af n)
   apply .inr (.inl ⟨a,_,rfl,DGet.k (k:=Sum.inr ab.1) G,?_⟩);rw[yG rfl,bw];apply qE (fun h1=>?_) (fun h1=>?_)
   .have n1:ab.1∉qm qs:=fun z=>by rw[yD z] at h1;cases h1
    apply .inr (.inl ⟨a,_,rfl,DGet.k (k:=Sum.inr ab.2) G,?_⟩);rw[yG rfl,bw];apply qE (fun h2=>?_) (fun h2=>?_)
    .have n2:ab.2∉qm qs:=fun z=>by rw[yD z] at h2;cases h2
     apply⟨p,5,N+3*X-2,rfl,aa.mono (by lk),by decide,by decide,fun d2 B db Z al=>?_⟩;have A:∀{c:Addr} {ab:Str×Str},Y c=some (.tup [.str ab.1,.str ab.2])->c≠p:=fun z e=>by obtain⟨u,v,w,S,_⟩:=aa;rw[e,S] at z;cases z
     have ao:∀ c o,c=j\/c=a\/c=s->Y c=some o->B c=some o:=fun c o hc z=>by
      rcases hc with rfl | rfl | rfl
      .show Z _ _ aq z
      .show Z _ _ ap z
      .show Z _ _ ai z
     apply qE (fun h3=>?_) (fun h3=>?_)
     .have bn:=hD.ok ab ad;have m1:ab.1∉seen:=fun z=>n1 ((af _).mp z);have m2:ab.2∉seen:=fun z=>n2 ((af _).mp z);have ar:=ao _ _ (.inr (.inl rfl)) G;have ax:PL B s ps qs:=⟨ao _ _ (.inr (.inr rfl)) M.1,M.2.mono fun _ _ z=>Z _ _ (A z) z⟩;have au:PL B j (us.eraseIdx d) (b.eraseIdx d):=⟨ao _ _ (.inl rfl) L.1,L.2.mono fun _ _ z=>Z _ _ (A z) z⟩;have cn:=bv.trans7 Z;apply .inr ⟨a,_,rfl,DPut.k (k:=Sum.inr ab.1) ar (qi (by unfold j8;rw[ya];lk)),?_⟩;rw[zu m1];have e8:upd B a (.dK (j8 (seen++[ab.1]))) a=some (.dK (j8 (seen++[ab.1]))):=qc;have k8:∀ c o,c≠a->B c=some o->upd B a (.dK (j8 (seen++[ab.1]))) c=some o:=fun c o hc z=>by rw[qh hc];show z
      generalize upd B a (.dK (j8 (seen++[ab.1])))=J8 at e8 k8;apply .inr ⟨a,_,rfl,DPut.k (k:=Sum.inr ab.2) e8 (qi (by unfold j8;rw[ya,yz];simp only[yC,Yn];lk)),?_⟩;rw[zu (fun z=>by rcases yH.mp z with z | z;show m2 z;show bn.2.2 (yx.mp z).symm)];have e9:upd J8 a (.dK (j8 (seen++[ab.1]++[ab.2]))) a=some (.dK (j8 (seen++[ab.1]++[ab.2]))):=qc;have k9:∀ c o,c≠a->B c=some o->upd J8 a (.dK (j8 (seen++[ab.1]++[ab.2]))) c=some o:=fun c o hc z=>by rw[qh hc];show k8 _ _ hc z
      generalize upd J8 a (.dK (j8 (seen++[ab.1]++[ab.2])))=J9 at e9 k9;have ck:∀{c:Addr} {q:Str×Str},B c=some (.tup [.str q.1,.str q.2])->c≠a:=fun z e=>by rw[e,ar] at z;cases z
      have ac:PL J9 s ps qs:=⟨k9 _ _ (Yq ch) ax.1,ax.2.mono fun _ _ z=>k9 _ _ (ck z) z⟩;have av:PL J9 j (us.eraseIdx d) (b.eraseIdx d):=⟨k9 _ _ (Yq cg) au.1,au.2.mono fun _ _ z=>k9 _ _ (ck z) z⟩
      have bf:Pn (N+3*X-2) J9 p:=by
       obtain⟨a1,a2,a3,a4,a5⟩:=al;show⟨a1,a2,a3,k9 _ _ (Yq ap) a4,a5⟩
      have co:But p H J9:=fun c o hc z=>k9 _ _ (fun e=>by rw[e,cd] at z;cases z) (cn c o hc z);apply⟨.inl ⟨rfl,_,.of ac.1⟩,?_⟩;apply⟨by show 2<=sizeLine;decide,fun t1 cy=>?_⟩;have bt:=qF (Sr J9) (o:=.tup [.str ab.1,.str ab.2]) cy;have bc:upd J9 t1 (.tup [.str ab.1,.str ab.2]) t1=some (.tup [.str ab.1,.str ab.2]):=qc;generalize upd J9 t1 (.tup [.str ab.1,.str ab.2])=J10 at bt bc;apply⟨by show 2<=sizeLine;decide,fun t2 cz=>?_⟩;have aj:=qF (Sr J10) (o:=.tup [.str ab.2,.str ab.1]) cz;have bd:upd J10 t2 (.tup [.str ab.2,.str ab.1]) t2=some (.tup [.str ab.2,.str ab.1]):=qc;generalize upd J10 t2 (.tup [.str ab.2,.str ab.1])=J11 at aj bd;apply⟨by show 2<=sizeLine;decide,fun g hg=>?_⟩;have U:=qF (Sr J11) (o:=.lst [.ref t1,.ref t2]) hg;have eg:upd J11 g (.lst [.ref t1,.ref t2]) g=some (.lst [.ref t1,.ref t2]):=qc;generalize upd J11 g (.lst [.ref t1,.ref t2])=J12 at U eg;have s9:=(bt.trans aj).trans U;have as:=bf.same s9;have pg:g≠p:=(bf.same (bt.trans aj)).apart hg;apply⟨p,2,N+3*X-3,rfl,as.mono (by lk),by decide,by decide,fun d3 J13 dc ak ca=>?_⟩;have ag:∀{c:Addr} {ab:Str×Str},J12 c=some (.tup [.str ab.1,.str ab.2])->c≠p:=fun z e=>by obtain⟨u,v,w,S,_⟩:=as;rw[e,S] at z;cases z
      obtain⟨t,q0,ht,et,an⟩:∃(t:Addr) (q0:Str×Str),[V.ref t1,.ref t2][d3]?=some (.ref t)/\J13 t=some (.tup [.str q0.1,.str q0.2])/\(q0=ab\/q0=(ab.2,ab.1)):=by
       have h2:d3=0\/d3=1:=by lk
       rcases h2 with rfl | rfl
       .show⟨t1,ab,rfl,ak _ _ (ag (U _ _ (aj _ _ bc))) (U _ _ (aj _ _ bc)),.inl rfl⟩
       .show⟨t2,(ab.2,ab.1),rfl,ak _ _ (ag (ab:=(ab.2,ab.1)) (U _ _ bd)) (U _ _ bd),.inr rfl⟩
      show .inl (zd (ak _ _ pg eg) (v:=.ref t) (qw ht) ?_);have r:But p J9 J13:=fun c o hc z=>ak _ _ hc (s9 c o z);have ba:∀{c:Addr} {ab:Str×Str},J9 c=some (.tup [.str ab.1,.str ab.2])->c≠p:=fun z e=>by obtain⟨u,v,w,S,_⟩:=bf;rw[e,S] at z;cases z
      have hPP13:PL J13 s ps qs:=⟨r _ _ ai ac.1,ac.2.mono fun _ _ z=>r _ _ (ba z) z⟩;have hPL13:PL J13 j (us.eraseIdx d) (b.eraseIdx d):=⟨r _ _ aq av.1,av.2.mono fun _ _ z=>r _ _ (ba z) z⟩;have bb:=r _ _ ap e9;have bu:=co.trans7 r;ext;have dg:=hPP13.2.len;show⟨s,_,_,rfl,rfl,hPP13.1,by rw[ya];show qi (by lk),?_⟩;have bp:∀{c:Addr} {q:Str×Str},J13 c=some (.tup [.str q.1,.str q.2])->c≠s:=fun z e=>by rw[e,hPP13.1] at z;cases z
      have cu:∀ n,n∈qm (qs++[q0])↔n∈qm qs\/n=ab.1\/n=ab.2:=fun n=>by
       rw[jL,yH];rcases an with rfl | rfl
       .simp
       .simp only[yA,yS,YN];constructor
        .rintro (z | z | z)
         .show .inl z
         .show .inr (.inr z)
         .show .inr (.inl z)
        .rintro (z | z | z)
         .show .inl z
         .show .inr (.inr z)
         .show .inr (.inl z)
      show⟨X-1,by lk,?_⟩;rw[am];show⟨us.eraseIdx d,b.eraseIdx d,qs++[q0],ps++[t],seen++[ab.1]++[ab.2],_,_,rfl,fun c o hc z=>?_,⟨?_,?_⟩,az,?_,fun n=>?_,?_,⟨by rw[qc,yE];rfl,?_⟩,?_,fun q hq=>?_,?_,?_,?_,by lk⟩
      .rw [qh (fun e=>by rw[e,ay] at z;cases z)];show bu c o hc z
      .rw [qh ci];show hPL13.1
      .show hPL13.2.mono fun _ _ z=>by rw[qh (bp z)];show z
      .rw [qh ch];show bb
      .rw [cu n,yH,yH,af n];simp only[yA,yS,YN];show or_assoc
      .simp only[yz,yC,Yn];lk
      .show All2.snoc (hPP13.2.mono fun _ _ z=>by rw[qh (bp z)];show z) (by rw[qh (bp et)];show et)
      .rw [jL];show yZ.mpr ⟨bj,?_,fun x hx y hy e=>?_⟩
       .rcases an with rfl | rfl
        .simp [bn.2.2]
        .simp [Yq bn.2.2]
       .subst e;rcases an with rfl | rfl
        .simp only[yA,yS,YN] at hy;rcases hy with rfl | rfl
         .show n1 hx
         .show n2 hx
        .simp only[yA,yS,YN] at hy;rcases hy with rfl | rfl
         .show n2 hx
         .show n1 hx
      .rcases yH.mp hq with z | z
       .show bm q z
       .rw [yx.mp z];rcases an with rfl | rfl
        .show .inl ad
        .show .inr ad
      .rw [yz];simp only[yC,Yn];lk
      .simp only[yz,yC,Yn];lk
      .obtain⟨a1,a2,a3,a4,a5⟩:=ca.mono (show N+3*(us.eraseIdx d).length<=N+3*X-3 by lk);show⟨a1,a2,a3,by rw[qh (Yq ai)];show a4,a5⟩
     .show be B Z (al.mono (by lk)) ao
    .show yq ?_;apply be Y (fun c o _ z=>z) (aa.mono (by lk)) fun c o _ z=>z
   .show yq ?_;apply be Y (fun c o _ z=>z) (aa.mono (by lk)) fun c o _ z=>z
structure PF(tps:LP)(g:Str->Option Str):Prop where
 sym:∀ a b,g a=some b->g b=some a
 tie:∀ a b,g a=some b->(a,b)∈tps\/(b,a)∈tps
theorem PF.inn(h:PF tps g)(c:DT ss tps){a:Str}(e:g a=some b):a∈ss/\b∈ss/\a≠b:=by
 rcases h.tie a b e with z | z
 .show c.ok _ z
 .obtain⟨x,y,n⟩:=c.ok _ z;show⟨y,x,Yq n⟩
theorem qa3(h:(qm qs).Nodup):(qm qs.reverse).Nodup:=((List.reverse_perm qs).flatMap_right _).nodup_iff.mpr h
theorem pt_rev(h:(qm qs).Nodup):pt qs.reverse=pt qs:=by
 funext a;show opt_ext fun b=>?_;rw[qdc h,qdc (qa3 h),kG,kG]
theorem DP.rev(h:DP tps qs):DP tps qs.reverse:=⟨qa3 h.nd,fun q a=>h.ok q (kG.mp a),by rw[xn];show h.few⟩
noncomputable def Dx(f g:Str->Option Str)(a b:Str):Bool:=decide (f a=some b) != decide (g a=some b)
noncomputable def nbL(ss:LS)(f g:Str->Option Str)(z:Str):LS:=ss.filter (Dx f g z)
noncomputable def wkF(nb:Str->LS):Nat->LS->LS->LS
 | 0,ns,_=>ns
 | _+1,ns,[]=>ns
 | n+1,ns,b::_=>wkF nb n (ns++[b]) ((nb b).filter fun c=>!decide (c∈ns++[b]))
noncomputable def wk(nb:Str->LS)(z:Str):LS:=wkF nb 14 [z] (nb z)
noncomputable def ptF(nb:Str->LS)(e:Nat):LS->LS->List (LS)
 | [],_=>[]
 | z::r,seen=>if (nb z).length=e/\z∉seen then wk nb z::ptF nb e r (seen++wk nb z) else ptF nb e r seen
structure Two(ss:LS)(f g:Str->Option Str):Prop where
 nd:ss.Nodup
 few:ss.length<=14
 fs:∀ a b,f a=some b->f b=some a
 gs:∀ a b,g a=some b->g b=some a
 fi:∀ a b,f a=some b->a∈ss/\b∈ss/\a≠b
 gi:∀ a b,g a=some b->a∈ss/\b∈ss/\a≠b
structure Wy(ss:LS)(f g:Str->Option Str)(z:Str)(ns ah:LS):Prop where
 nd:ns.Nodup
 inn:∀ x∈ns,x∈ss
 hd:ns[0]?=some z
 st:∀(i:Nat) a b,ns[i]?=some a->ns[i+1]?=some b->Dx f g a b=true
 nxt:∀ x,ns[ns.length-1]?=some x->∀ y,Dx f g x y=true->y∈ns\/y∈ah
 on:∀ y∈ah,y∉ns/\∀ x,ns[ns.length-1]?=some x->Dx f g x y=true
section
variable{ss:LS}{f g:Str->Option Str}
theorem dx_iff{a:Str}:Dx f g a b=true↔((f a=some b/\g a≠some b)\/(f a≠some b/\g a=some b)):=by
 unfold Dx;by_cases h1:f a=some b<;>by_cases c:g a=some b<;>simp[h1,c]
theorem dx_swap{a:Str}:Dx g f a b=Dx f g a b:=by
 unfold Dx;cases decide (f a=some b)<;>cases decide (g a=some b)<;>rfl
theorem nb_swap:nbL ss g f=nbL ss f g:=by
 funext z;unfold nbL;rw[show Dx g f z=Dx f g z from funext fun b=>dx_swap]
theorem Two.sym(T:Two ss f g){a:Str}(h:Dx f g a b=true):Dx f g b a=true:=by
 rw[dx_iff] at h ⊢;rcases h with⟨h1,c⟩ | ⟨h1,c⟩
 .show .inl ⟨T.fs _ _ h1,fun z=>c (T.gs _ _ z)⟩
 .show .inr ⟨fun z=>h1 (T.fs _ _ z),T.gs _ _ c⟩
theorem Two.inn(T:Two ss f g){a:Str}(h:Dx f g a b=true):a∈ss/\b∈ss/\a≠b:=by
 rw[dx_iff] at h;rcases h with⟨h1,_⟩ | ⟨_,h1⟩
 .show T.fi _ _ h1
 .show T.gi _ _ h1
theorem Two.mem(T:Two ss f g){a:Str}:b∈nbL ss f g a↔Dx f g a b=true:=by
 unfold nbL;rw[yp];show⟨fun h=>h.2,fun h=>⟨(T.inn h).2.1,h⟩⟩
theorem Two.third(T:Two ss f g){a c d:Str}(hb:Dx f g a b=true)(hc:Dx f g a c=true)(m:Dx f g a d=true)(h:b≠c):d=b\/d=c:=by
 rw[dx_iff] at hb hc m;have e:∀{o:Option Str} {x y:Str},o=some x->o=some y->x=y:=fun h1 n=>ym (h1.symm.trans n);rcases hb with⟨i,_⟩ | ⟨_,i⟩<;>rcases hc with⟨j,_⟩ | ⟨_,j⟩<;>rcases m with⟨l,_⟩ | ⟨_,l⟩
 .show absurd (e i j) h
 .show absurd (e i j) h
 .show .inl (e l i)
 .show .inr (e l j)
 .show .inr (e l j)
 .show .inl (e l i)
 .show absurd (e i j) h
 .show absurd (e i j) h
theorem Two.nbnd(T:Two ss f g)(z:Str):(nbL ss f g z).Nodup:=T.nd.filter _
theorem Wy.pos{ns:LS}(h:Wy ss f g z ns ah):0<ns.length:=(yc.mp h.hd).1
theorem Two.wy0(T:Two ss f g)(e:z∈ss):Wy ss f g z [z] (nbL ss f g z):=
 ⟨xi _ _,(fun x c=>by rw[yx.mp c];show e),rfl,(fun i a b _ h=>by simp at h),fun x c y d=>by
  cases c
  show .inr (T.mem.mpr d),fun y d=>⟨fun k=>by
   rw[yx.mp k] at d;show(T.inn (T.mem.mp d)).2.2 rfl,fun x c=>by cases c;show T.mem.mp d⟩⟩
theorem Two.wyS(T:Two ss f g){ns r:LS}(h:Wy ss f g z ns (b::r)):Wy ss f g z (ns++[b]) ((nbL ss f g b).filter fun c=>!decide (c∈ns++[b])):=by
 obtain⟨h1,t⟩:=h.on b yy;have a:=h.pos;obtain⟨x,o⟩:∃ x,ns[ns.length-1]?=some x:=⟨_,yb (by lk)⟩;have n:=t x o
 have lst:∀ y,(ns++[b])[(ns++[b]).length-1]?=some y->y=b:=fun y e=>by
  rw[yz,show ns.length + [b].length-1=ns.length from rfl,xr] at e;show(ym e).symm
 show⟨yZ.mpr ⟨h.nd,xi _ _,fun p a q v e=>?_⟩,fun p a=>?_,by rw[yT a];show h.hd,fun i p q d j=>?_,fun y m c hc=>?_,fun c hc=>?_⟩
 .rw [yx.mp v] at e;rw[e] at a;show h1 a
 .rcases yH.mp a with k | k
  .show h.inn p k
  .rw [yx.mp k];show(T.inn n).2.1
 .by_cases u:i+1<ns.length
  .rw [yT (by lk)] at d;rw[yT u] at j;show h.st i p q d j
  .have l:i+1=ns.length:=by
    have:=(yc.mp j).1;rw[yz] at this;have:i+1<ns.length+1:=this;lk
   rw[l,xr] at j;cases j;rw[yT (by lk),show i=ns.length-1 by lk] at d;rw[o] at d;cases d;show n
 .rw [lst y m] at hc;by_cases k:c∈ns++[b]
  .show .inl k
  .show .inr (yp.mpr ⟨T.mem.mpr hc,by rw[yl k];rfl⟩)
 .obtain⟨w,s⟩:=yp.mp hc;show⟨fun k=>(by rw[yD k] at s;cases s),fun y m=>?_⟩;rw[lst y m];show T.mem.mp w
theorem Two.goF(T:Two ss f g):∀(n:Nat) {ns ah:LS},Wy ss f g z ns ah->n+ns.length=15->Wy ss f g z (wkF (nbL ss f g) n ns ah) []
 | 0,ns,ah,h,hl=>by
  have:=ji h.nd h.inn;have:=T.few;lk
 | _+1,ns,[],h,_=>h
 | n+1,ns,b::r,h,hl=>Two.goF T n (T.wyS h) (by rw[yz];show n+(ns.length+1)=15;lk)
theorem Two.go(T:Two ss f g)(a:z∈ss):Wy ss f g z (wk (nbL ss f g) z) []:=T.goF 14 (T.wy0 a) rfl
end
def ClD(f g:Str->Option Str)(U:LS):Prop:=∀ x∈U,∀ y,Dx f g x y=true->y∈U
structure RwW(ss:LS)(f g:Str->Option Str)(Yw:LS):Prop where
 nd:Yw.Nodup
 inn:∀ x∈Yw,x∈ss
 two:2<=Yw.length
 adj:∀ a b,adjR Yw a b->Dx f g a b=true
 all:∀ x∈Yw,∀ y,Dx f g x y=true->adjR Yw x y
 fst:∀ s t y,Yw[0]?=some s->Yw[1]?=some t->Dx f g s y=true->y=t
 lst:∀ s t y,Yw[Yw.length-1]?=some s->Yw[Yw.length-2]?=some t->Dx f g s y=true->y=t
section
variable{ss:LS}{f g:Str->Option Str}
theorem ndx{l:LS}(h:l.Nodup){a:Str}(h1:l[i]?=some a)(b:l[j]?=some a):i=j:=jK h h1 b
theorem Two.row(T:Two ss f g)(L:z∈ss)(h1:(nbL ss f g z).length=1):RwW ss f g (wk (nbL ss f g) z):=by
 have w:=T.go L;generalize wk (nbL ss f g) z=Yw at w;have N:=w.pos
 obtain⟨b,hb⟩:∃ b,nbL ss f g z=[b]:=by
  match nbL ss f g z,h1 with
  | [b],_=>show⟨b,rfl⟩
 have v:∀ y,Dx f g z y=true->y=b:=fun y d=>by have:=T.mem.mpr d;rw[hb] at this;show yx.mp this
 have p:Dx f g z b=true:=T.mem.mp (by rw[hb];show List.mem_singleton_self _)
 have two:2<=Yw.length:=by
  show Yp fun M=>?_;have hl:Yw.length=1:=by lk
  have k:=w.nxt z (by rw[hl];show w.hd) b p;rcases k with k | k
  .obtain⟨i,l⟩:=yf k;have:i<Yw.length:=(yc.mp l).1;have H:i=0:=by lk
   rw[H,w.hd] at l;show(T.inn p).2.2 (ym l)
  .cases k
 have q:∀(i:Nat) x,Yw[i]?=some x->i+1<Yw.length->∀ y,Dx f g x y=true->Yw[i+1]?=some y\/(0<i/\Yw[i-1]?=some y):=fun i x m l y d=>by
  obtain⟨c,hc⟩:∃ c,Yw[i+1]?=some c:=⟨_,yb l⟩;have F:=w.st i x c m hc;by_cases I:i=0
  .subst I;rw[w.hd] at m;cases m;rw[v y d,<- v c F];show .inl hc
  .obtain⟨a,C⟩:∃ a,Yw[i-1]?=some a:=⟨_,yb (by lk)⟩;have G:=T.sym (w.st (i-1) a x C (by rw[show i-1+1=i by lk];show m));have D:a≠c:=fun e=>by have:=ndx w.nd C (e ▸ hc);lk
   rcases T.third G F d D with e | e
   .show .inr ⟨by lk,by rw[e];show C⟩
   .show .inl (by rw[e];show hc)
 have n:∀ x,Yw[Yw.length-1]?=some x->∀ y,Dx f g x y=true->Yw[Yw.length-2]?=some y:=fun x m y d=>by
  rcases w.nxt x m y d with k | k
  .obtain⟨j,o⟩:=yf k;have K:j<Yw.length:=(yc.mp o).1;by_cases e:j+1=Yw.length
   .rw [show j=Yw.length-1 by lk,m] at o;show absurd (ym o) (T.inn d).2.2
   .rcases q j y o (by lk) x (T.sym d) with k | ⟨k1,k⟩
    .have:=ndx w.nd k m;rw[show Yw.length-2=j by lk];show o
    .have:=ndx w.nd k m;lk
  .cases k
 show⟨w.nd,w.inn,two,fun a E h=>?_,fun x m y d=>?_,fun s t y r u d=>?_,fun s t y r u d=>?_⟩
 .obtain⟨j,⟨A,B⟩ | ⟨A,B⟩⟩:=h
  .show w.st j a E A B
  .show T.sym (w.st j E a A B)
 .obtain⟨i,l⟩:=yf m;have J:i<Yw.length:=(yc.mp l).1;by_cases e:i+1<Yw.length
  .rcases q i x l e y d with k | ⟨k1,k⟩
   .show⟨i,.inl ⟨l,k⟩⟩
   .show⟨i-1,.inr ⟨k,by rw[show i-1+1=i by lk];show l⟩⟩
  .have k:=n x (by rw[show Yw.length-1=i by lk];show l) y d;show⟨Yw.length-2,.inr ⟨k,by rw[show Yw.length-2+1=i by lk];show l⟩⟩
 .rw [w.hd] at r;cases r;rw[v y d];show(v t (w.st 0 _ t w.hd u)).symm
 .have:=n s r y d;rw[this] at u;show ym u
theorem RwW.cl(h:RwW ss f g Yw):ClD f g Yw:=fun x a y b=>(h.all x a y b).mem.2
theorem Wy.out(T:Two ss f g)(w:Wy ss f g z Yw [])(d:ClD f g U)(h:z∉U):∀ x∈Yw,x∉U:=by
 have k:∀(i:Nat) x,Yw[i]?=some x->x∉U:=fun i=>by
  induction i with
  | zero=>intro x a;rw[w.hd] at a;cases a;show h
  | succ i ih =>
   intro x a b;obtain⟨y,c⟩:∃ y,Yw[i]?=some y:=⟨_,yb (by have:=(yc.mp a).1;lk)⟩;show ih y c (d x b y (T.sym (w.st i y x c a)))
 intro x a;obtain⟨i,e⟩:=yf a;show k i x e
theorem ClD.app(h:ClD f g U)(k:ClD f g Yw):ClD f g (U++Yw):=fun x b y a=>by
 rcases yH.mp b with z | z
 .show Yb _ (h x z y a)
 .show yM _ (k x z y a)
end
noncomputable def hdW(Yw:LS):Str:=Yw.getD 0 ""
section
variable{ss:LS}{f g:Str->Option Str}
theorem Wy.head(w:Wy ss f g z Yw ah):hdW Yw=z/\z∈Yw:=by
 show⟨?_,ye w.hd⟩;unfold hdW;rw[YW,w.hd];rfl
theorem Two.pts(T:Two ss f g)(e:Nat):∀(pl seen:LS),(∀ z∈pl,z∈ss) ->
  (∀ Yw∈ptF (nbL ss f g) e pl seen,∃ z∈pl,Yw=wk (nbL ss f g) z/\(nbL ss f g z).length=e/\z∉seen) /\
  (∀ z∈pl,(nbL ss f g z).length=e->z∈seen\/∃ Yw∈ptF (nbL ss f g) e pl seen,z∈Yw)/\List.Sublist ((ptF (nbL ss f g) e pl seen).map hdW) pl
 | [],_,_=>⟨(fun Yw h=>by cases h),(fun z h=>by cases h),.slnil⟩
 | z::r,seen,hi=>by
  have m:=T.go (hi z yy);unfold ptF;by_cases h:(nbL ss f g z).length=e/\z∉seen
  .rw [yG h];obtain⟨i,j,l⟩:=Two.pts T e r (seen++wk (nbL ss f g) z) fun y a=>hi y (yu _ a);show⟨fun Yw d=>?_,fun y a b=>?_,?_⟩
   .rcases yA.mp d with k | k
    .show⟨z,yy,k,h⟩
    .obtain⟨y,h1,c,n,o⟩:=i Yw k;show⟨y,yu _ h1,c,n,fun q=>o (Yb _ q)⟩
   .rcases yA.mp a with k | k
    .show .inr ⟨_,yy,by rw[k];show m.head.2⟩
    .rcases j y k b with q | ⟨Yw,q1,q2⟩
     .rcases yH.mp q with q | q
      .show .inl q
      .show .inr ⟨_,yy,q⟩
     .show .inr ⟨Yw,yu _ q1,q2⟩
   .rw [yJ,m.head.1];show l.cons_cons z
  .rw [yB h];obtain⟨i,j,l⟩:=Two.pts T e r seen fun y a=>hi y (yu _ a);show⟨fun Yw d=>?_,fun y a b=>?_,l.cons z⟩
   .obtain⟨y,h1,c⟩:=i Yw d;show⟨y,yu _ h1,c⟩
   .rcases yA.mp a with k | k
    .subst k;show .inl (Yp fun q=>h ⟨b,q⟩)
    .show j y k b
theorem Two.rows(T:Two ss f g):∀(pl seen:LS),(∀ z∈pl,z∈ss)->ClD f g seen ->
  (∀ Yw∈ptF (nbL ss f g) 1 pl seen,RwW ss f g Yw/\∀ x∈Yw,x∉seen)/\(ptF (nbL ss f g) 1 pl seen).Pairwise (fun V Yw=>∀ x∈Yw,x∉V)
 | [],_,_,_=>⟨(fun Yw h=>by cases h),.nil⟩
 | z::r,seen,hi,hc=>by
  have e:=T.go (hi z yy);unfold ptF;by_cases h:(nbL ss f g z).length=1/\z∉seen
  .rw [yG h];have R:=T.row (hi z yy) h.1;obtain⟨d,i⟩:=Two.rows T r (seen++wk (nbL ss f g) z) (fun y c=>hi y (yu _ c)) (hc.app R.cl);show⟨fun Yw a=>?_,Y5.mpr ⟨fun Yw a x b q=>(d Yw a).2 x b (yM _ q),i⟩⟩;rcases yA.mp a with k | k
   .rw [k];show⟨R,e.out T hc h.2⟩
   .show⟨(d Yw k).1,fun x b q=>(d Yw k).2 x b (Yb _ q)⟩
  .rw [yB h];show Two.rows T r seen (fun y c=>hi y (yu _ c)) hc
theorem cl_flat{L:List (LS)}(h:∀ Yw∈L,RwW ss f g Yw):ClD f g L.flatten:=fun x c y d=>by
 obtain⟨Yw,b,a⟩:=YH.mp c;show YH.mpr ⟨Yw,b,(h Yw b).cl x a y d⟩
end
theorem qbk(c:α->Int):∀{l m:List α},l.Perm m->l.Pairwise (fun a b=>c a<=c b)->m.Pairwise (fun a b=>c a<c b)->l=m
 | [],m,p,_,_=>(List.nil_perm.mp p).symm
 | a::l,[],p,_,_=>by have:=p.length_eq;cases this
 | a::l,b::m,p,h1,h2=>by
  obtain⟨d,f⟩:=Y5.mp h1;obtain⟨g,h⟩:=Y5.mp h2
  have e:a=b:=by
   rcases yA.mp (p.mem_iff.mp yy) with k | k
   .show k
   .have i:=g a k;rcases yA.mp (p.mem_iff.mpr yy) with q | q
    .show q.symm
    .have:=d b q;lk
  subst e;rw[qbk c (p.cons_inv) f h]
theorem qaN{xs:List α}{v:α}(a:1<=j)(h1:j<=xs.length)(h:xs[xs.length-j]?=some v):atI xs (-(j:Int))=some v:=by
 have e:ixN xs.length (-(j:Int))=some (xs.length-j):=by
  unfold ixN;rw[yB (by lk),yG (by lk)]
  congr 1
  lk
 unfold atI;rw[e];show h
theorem qd5{n:Addr}{Q:VK}(a:H n=some (.lst (ss.map V.str)))(q:Q (.bl (!decide (z∈ss))) H):qft K true (.str z) (.ref n) H Q:=
 .inl ⟨n,_,rfl,.inl (.of a),rfl,YD.mpr fun x b=>by(obtain⟨s,_,rfl⟩:=yQ.mp b;rfl),by rw[yG rfl,inV_str];show q⟩
section
variable{ss:LS}{f g:Str->Option Str}
theorem Two.one(T:Two ss f g)(h:Dx f g z b=true)(h1:∀ y,Dx f g z y=true->y=b):(nbL ss f g z).length=1:=by
 have hb:=T.mem.mpr h;have c:=T.nbnd z;have a:∀ y∈nbL ss f g z,y=b:=fun y i=>h1 y (T.mem.mp i)
 match nbL ss f g z,hb,c,a with
 | [x],_,_,_=>rfl
 | x::y::r,_,c,a =>
  have d:=a x (by simp);have e:=a y (by simp);rw[d,e] at c;simp at c
end
theorem Kj:FnScope ["web","ones","others","near","place","one","other"] ["web","ones","others"] (qg jk):=fS
theorem KD:FnScope ["near","start","names","ahead"] ["near","start"] (qg qaq):=fS
def BxD(d:Addr)(H H':Hp):Prop:=∀ b o,b≠d->H b=some o->H' b=some o
def NrH(H:Hp)(d:Addr)(pl:LS)(nb:Str->LS):Prop:=∃ kvs:List (Key×V),H d=some (.dK kvs)/\kvs.length<=pl.length/\∀ s∈pl,∃ a,zi kvs (.inr s:Key)=some (.ref a)/\H a=some (.lst ((nb s).map V.str))
theorem NrH.same{d:Addr}(h:NrH H d pl nb)(s:L2.Same H H'):NrH H' d pl nb:=by
 obtain⟨kvs,h1,b,c⟩:=h;show⟨kvs,s _ _ h1,b,fun z e=>let ⟨a,e1,e2⟩:=c z e;⟨a,e1,s _ _ e2⟩⟩
theorem NrH.get{d:Addr}(h:NrH H d pl nb)(f:z∈pl):∃ a,DGet H d (.str z) (some (.ref a))/\H a=some (.lst ((nb z).map V.str)):=by
 obtain⟨kvs,h1,_,e⟩:=h;obtain⟨a,b,c⟩:=e z f;have:=DGet.k (k:=Sum.inr z) h1;rw[b] at this;show⟨a,this,c⟩
theorem qga{a b:Bool}{Q:VK}(q:Q (.bl (!(a==b))) H):qeC K true (.bl a) (.bl b) H Q:=.inl ⟨rfl,rfl,by rw[yG rfl];show q⟩
theorem qeQ{o:Option Str}{Q:VK}(q:Q (.bl (decide (o=some t))) H):qe7 K (.str t) ((o.map V.str).getD .non) H Q:=by
 cases o with
 | none=>show .inl (.inl (.inl ⟨rfl,rfl,by rw[yB (by decide)];show q⟩))
 | some s =>
  show qe8 ?_;rw[show decide (t=s)=decide (some s=some t) from YS.mpr ⟨fun e=>by rw[e],fun e=>(ym e).symm⟩];show q
inductive spNb(cw:Addr)(vs:List V)(H:Hp)(Q:VK)(E:XK):Prop|mk (x d1 d2:Addr) (ss:LS) (ns:LN) (tps qs rs:LP) (_:vs=[.ref x,.ref d1,.ref d2]) (_:WebAt cw H x ss ns) (_:Adj ss ns tps) (_:H d1=some (.dK (prK qs))) (_:H d2=some (.dK (prK rs))) (_:PF tps (pt qs)) (_:PF tps (pt rs)) (_:DT ss tps) (_:∀(d:Addr) (H':Hp),L2.Same H H'->NrH H' d ss (nbL ss (pt qs) (pt rs))->Q (.ref d) H')
inductive spWk(vs:List V)(H:Hp)(Q:VK)(E:XK):Prop|mk (d:Addr) (ss:LS) (f g:Str->Option Str) (z:Str) (_:vs=[.ref d,.str z]) (_:NrH H d ss (nbL ss f g)) (_:Two ss f g) (_:z∈ss) (_:∀(l:Addr) (H':Hp),L2.Same H H'->H l=none->H' l=some (.lst ((wk (nbL ss f g) z).map V.str))->Q (.ref l) H')
theorem ok_nb(F:Fun K "near_between" "near_between" jk f fd)(T:Txt K mg cc cw)(Kq:MethOk P w K mg base CX0 1 cw "places" ["self"] (spPls cw))(ud:MethOk P w K mg base CX0 6 cw "beside" ["self","place"] (spBs cw)):FnOk P w K mg base CX0 7 f fd ["web","ones","others"] (spNb cw):=by
 show F.ok Kj fun _ _ _ s H vs Q E hr h=>?_
 .obtain⟨x,d1,d2,ss,ns,tps,qs,rs,rfl,Yw,hA,h1,h2,pf,pg,hD,q⟩:=h;have t:=zT hr;obtain⟨_,_,_,_,_,_,_,_,M⟩:=id Yw;have C:=M.nd;have B:=M.few;show⟨_,(qb (qp (i:=3) Kj.nd rfl (yI rfl) ju)
 (qb (qU yW rfl (qM (K:=K) rfl (qaX Kq (hmR hr) (pv 0))) (qu (i:=4) Kj.nd rfl (yI rfl))
 (qb (qp (i:=5) Kj.nd rfl (Xw rfl) (qac (qfu t) (pv 1) (pv 4) ⟨rfl,rfl,rfl,rfl⟩))
 (qb (qp (i:=6) Kj.nd rfl (Xw rfl) (qac (qfu t) (pv 2) (pv 4) ⟨rfl,rfl,rfl,rfl⟩))
 (qf (qT (j7 (sc:=qg jk) (XN:=["web","ones","others","near","place","one","other"]) ["name","one","other"] 1 [5,6] rfl rfl rfl (by room) rfl (by room)
  (qM (K:=K) rfl (qX ud (hmR hr) (pv 0) (qa (pv 4) qd))) (fun _ _ _ _=>(qu (i:=0) (show(["name","one","other"]:LS).Nodup by room) rfl (yI rfl))) jc
  (fun _ _ _ _=>(qah (qk (zq (K:=K) rfl t) (jo (zy (K:=K) rfl t) (pv 0) (pv 1) (qx _)) (jo (zy (K:=K) rfl t) (pv 0) (pv 2) (qx _)) (qx _))))
  (fun _ _ _ _=>(pv 0))) (jp (pv 3) (pv 4) (jq t)))))))
 (qf (qt (pv 3))))),?_⟩
  ext;intro d hd;have S:=qF (Sr H) (o:=.dK []) hd;have Y:upd H d (.dK []) d=some (.dK []):=qc;generalize upd H d (.dK [])=H1 at S Y;ext;obtain⟨wx,dd,ol,nn,hb,_⟩:=id (Yw.same S);show⟨x,wx,_,rfl,hb,qan (by room),?_⟩;apply⟨x,ss,ns,rfl,Yw.same S,fun R p=>?_⟩;have s2:=qF S (o:=.lst (ss.map V.str)) p;have A:=qF (Sr H1) (o:=.lst (ss.map V.str)) p _ _ Y;have Z:upd H1 R (.lst (ss.map V.str)) R=some (.lst (ss.map V.str)):=qc;have af:R≠d:=fun z=>by rw[z,Y] at p;cases p
  generalize upd H1 R (.lst (ss.map V.str))=H2 at s2 A Z;have nd:∀{b:Addr} {o:HO},H b=some o->b≠d:=fun e z=>by rw[z,hd] at e;cases e
  apply .inl ⟨⟨_,.of Z⟩,qR (xs:=ss.map V.str) (fun i W J=>BxD d H2 J/\NrH J d (ss.take i) (nbL ss (pt qs) (pt rs))/\∃ y4 y5 y6,W=[some (.ref x),some (.ref d1),some (.ref d2),some (.ref d),y4,y5,y6]) ⟨fun b o _ e=>e,⟨[],A,yU _,(fun s hs=>by simp at hs)⟩,_,_,_,rfl⟩ (fun i W J _ D=>.of (D.1 _ _ af Z)) (fun i y W J I D=>?_) fun W J D=>?_⟩
  .obtain⟨N,O,y4,y5,y6,rfl⟩:=D;rw[yd] at I;obtain⟨pl,r,rfl⟩:=yn.mp I;have ao:=ye r;have c:L2.Same H J:=fun b o e=>N b o (nd e) (s2 b o e);apply qb9 ?_;apply⟨d1,rfl,.inl ⟨_,.inl (c _ _ h1)⟩,?_⟩;apply⟨_,DGet.k (k:=Sum.inr pl) (c _ _ h1),?_⟩;rw[zH];apply qb9 ?_;apply⟨d2,rfl,.inl ⟨_,.inl (c _ _ h2)⟩,?_⟩;apply⟨_,DGet.k (k:=Sum.inr pl) (c _ _ h2),?_⟩;rw[zH];ext;obtain⟨aj,ak,ar,aq,aa,_⟩:=id (Yw.same c);show⟨x,aj,_,rfl,aa,qan (by room),?_⟩;apply⟨x,ss,ns,pl,i,rfl,Yw.same c,r,fun J1 ag l hl=>?_⟩;have L:=qF ag (o:=.lst ((inB ss 0 (ns.getD i 0)).map V.str)) hl;have n:upd J1 l (.lst ((inB ss 0 (ns.getD i 0)).map V.str)) l=some (.lst ((inB ss 0 (ns.getD i 0)).map V.str)):=qc;generalize upd J1 l (.lst ((inB ss 0 (ns.getD i 0)).map V.str))=J2 at L n;have u:(inB ss 0 (ns.getD i 0)).length<=14:=yi (qbv _ _ _) B
   have v:(inB ss 0 (ns.getD i 0)).filter (Dx (pt qs) (pt rs) pl)=nbL ss (pt qs) (pt rs) pl:=by
    rw[inB_filter C,List.filter_filter];show List.filter_congr fun b hb=>?_
    cases e:Dx (pt qs) (pt rs) pl b with
    | false=>rfl
    | true =>
     obtain⟨j,hj⟩:=yf hb
     have ai:(pl,b)∈tps\/(b,pl)∈tps:=by
      rcases dx_iff.mp e with⟨k,_⟩ | ⟨_,k⟩
      .show pf.tie _ _ k
      .show pg.tie _ _ k
     have ac:ss.idxOf b=j:=by
      obtain⟨ad,rfl⟩:=yc.mp hj;show C.idxOf_getElem j ad
     rw[ac,(hA i j pl b r hj).mpr ai];rfl
   generalize inB ss 0 (ns.getD i 0)=bs at n u v;show .inl ⟨⟨_,.of n⟩,jJ (xs:=bs.map V.str) (fun i U G=>G=J2/\U=((bs.take i).filter (Dx (pt qs) (pt rs) pl)).map V.str) ⟨rfl,rfl⟩ (fun i U G _ g=>by rw[g.1];show .of n) (fun i y U G I g=>?_) fun U G g=>?_⟩
   .obtain⟨rfl,rfl⟩:=g;rw[yd] at I;obtain⟨b,hx,rfl⟩:=yn.mp I;have al:i<bs.length:=(yc.mp hx).1;have am:((bs.take i).filter (Dx (pt qs) (pt rs) pl)).length<=14:=yi (YB _ _) (by rw[yL];lk);rw[yR,hx,xQ];apply qeQ ?_;apply qeQ ?_;show qga ?_;show⟨_,rfl,qE (fun r=>?_) (fun r=>?_)⟩
    .ext;show⟨by rw[ya];show qi (by lk),rfl,?_⟩;show _=List.map V.str (_++[b].filter _);rw[YM,yG (show Dx (pt qs) (pt rs) pl b=true from r),yE];rfl
    .show⟨rfl,?_⟩;show _=List.map V.str (_++[b].filter _);rw[YM,yB (show ¬ Dx (pt qs) (pt rs) pl b=true from r),Xj,Yt]
   .obtain⟨rfl,rfl⟩:=g;rw[show(bs.map V.str).length=bs.length from ya ..,Yc,v];have an:(nbL ss (pt qs) (pt rs) pl).length<=14:=yi (YB _ _) B;show⟨by rw[ya];show yP (qi (by lk)),fun a ha=>?_⟩;have m:=qF L (o:=.lst ((nbL ss (pt qs) (pt rs) pl).map V.str)) ha;have X:upd G a (.lst ((nbL ss (pt qs) (pt rs) pl).map V.str)) a=some (.lst ((nbL ss (pt qs) (pt rs) pl).map V.str)):=qc;generalize upd G a (.lst ((nbL ss (pt qs) (pt rs) pl).map V.str))=J3 at m X;obtain⟨kvs,k1,k2,k3⟩:=O;ext;have ap:(ss.take i).length<=14:=by rw[yL];lk
    show .inr ⟨d,_,rfl,DPut.k (k:=Sum.inr pl) (m _ _ k1) (qi (by lk)),?_⟩;show⟨fun b o hb e=>by rw[qh hb];show m _ _ (N b o hb e),⟨_,qc,?_,fun z hz=>?_⟩,_,_,_,rfl⟩
    .have:=jS kvs (Sum.inr pl:Key) (.ref a);rw[yR,r,yz];show _<=_+1;lk
    .rw [valV_put];have ae:a≠d:=jD X (m _ _ k1) (by intro z;cases z);by_cases e:z=pl
     .subst e;show⟨a,yG rfl,by rw[qh ae];show X⟩
     .rw [yR,r] at hz;rcases yH.mp hz with hz | hz
      .obtain⟨a',e1,e2⟩:=k3 z hz;show⟨a',by rw[yB (fun y=>e (xY y))];show e1,by rw[qh (jD e2 k1 (by intro z;cases z))];show m _ _ e2⟩
      .show absurd (yx.mp hz) e
  .obtain⟨N,O,y4,y5,y6,rfl⟩:=D;ext;rw[show(ss.map V.str).length=ss.length from ya ..,Yc] at O;show q d J (fun b o e=>N b o (nd e) (s2 b o e)) O
theorem ok_wkd(F:Fun K "walked" "walked" qaq f fd)(T:Txt K mg cc cw):FnOk P w K mg base CX0 1 f fd ["near","start"] spWk:=by
 show F.ok KD fun _ _ _ _ H vs Q E hr h=>?_
 .obtain⟨d,ss,O,g,z,rfl,hN,T2,hz,q⟩:=h;have S:=zT hr;have I:=T2.few;show⟨_,(qb (qp (i:=2) KD.nd rfl (Xw rfl) (qK (qa (pv 1) qd)))
 (qb (qp (i:=3) KD.nd rfl (yI rfl) (qq (qr (K:=K) rfl S) (pv 0) (pv 1) (fun _ _=>rfl)))
 (qb (qcK yW (qk qbp (qj (jw (K:=K) rfl) rfl T.b_len Yy (qa (pv 3) qd)) qe (qx _))
 (qb (q9 (qb2 (K:=K) rfl yO Ye Yg qL (pv 2) (qa (qq (qr (K:=K) rfl S) (pv 3) qe (fun _ _=>rfl)) qd)))
 (qf (qaz (sc:=qg qaq) (XN:=["near","start","names","ahead"]) ["name","names"] 1 [2] rfl rfl rfl (by room) rfl (by room) (i:=3) KD.nd rfl rfl
  (qM (K:=K) rfl (qq (qr (K:=K) rfl S) (pv 0) (qq (qr (K:=K) rfl S) (pv 2) (qcn qaQ qe) (fun _ _=>rfl)) (fun _ _=>rfl))) (fun _ _ _ _=>(qu (i:=0) (show(["name","names"]:LS).Nodup by room) rfl (yI rfl))) jc
  (fun _ _ _ _=>(qah (qk (jH (K:=K) rfl S) (pv 0) (pv 1) (by with_unfolding_all rfl))))
  (fun _ _ _ _=>(pv 0))))))
 (qf (qt (pv 2)))))),?_⟩
  apply⟨by show 1<=sizeLine;decide,fun p N=>?_⟩;have X:=qF (Sr H) (o:=.lst [.str z]) N;have el:upd H p (.lst [.str z]) p=some (.lst (([z]:LS).map V.str)):=qc;generalize upd H p (.lst [.str z])=H1 at X el;have nd:∀{b:Addr} {o:HO},H b=some o->b≠p:=fun e k=>by rw[k,N] at e;cases e
  obtain⟨kvs,k1,_,k3⟩:=hN
  have get:∀{J:Hp} {y:Str} {a:Addr},J d=some (.dK kvs)->zi kvs (.inr y:Key)=some (.ref a)->DGet J d (.str y) (some (.ref a)):=fun{J y a} Y e2=>by
   have:=DGet.k (k:=Sum.inr y) Y;rw[e2] at this;show this
  obtain⟨a0,e0,Y⟩:=k3 z hz;apply .inr ⟨d,_,rfl,get (X _ _ k1) e0,?_⟩;ext;obtain⟨Yw,L⟩:∃ Yw:Nat->L2.St->Hp->Prop,Yw=fun m σ J=>∃(Z:Addr) (ns ah:LS),σ=[some (.ref d),some (.str z),some (.ref p),some (.ref Z)]/\BxD p H1 J/\J p=some (.lst (ns.map V.str))/\J Z=some (.lst (ah.map V.str))/\Z≠p/\ah.length<=14/\Wy ss O g z ns ah/\wkF (nbL ss O g) m ns ah=wk (nbL ss O g) z/\m+ns.length=15:=⟨_,rfl⟩;show⟨Yw,⟨14,by rw[L];show⟨a0,[z],nbL ss O g z,rfl,fun b o _ e=>e,el,X _ _ Y,nd Y,yi (YB _ _) I,T2.wy0 hz,rfl,rfl⟩⟩,fun m σ J hW=>?_⟩;rw[L] at hW;obtain⟨Z,ns,ah,rfl,bJ,D,t,aj,R,s,A,hm⟩:=hW;apply ze t ?_;rw[ya];ext;have ai:ns.length<=14:=yi (ji s.nd s.inn) I
  match ah,t,R,s,A with
  | [],t,_,s,A =>
   show yq ?_;ext
   have e:wk (nbL ss O g) z=ns:=by
    rw[<- A];cases m<;>rfl
   show q p J (fun b o k=>bJ b o (nd k) (X _ _ k)) N ?_;rw[e];show D
  | b::r,t,R,s,A =>
   show qE (fun _=>?_) fun h=>absurd (by simp) h;obtain⟨m',rfl⟩:∃ m',m=m'+1:=⟨m-1,by lk⟩;have hS:=T2.wyS s;have ac:b∈ss:=hS.inn b (by simp);show⟨fun ae H'=>∃ k,k<m'+1/\Yw k ae H',fun _ _ z=>z,?_⟩;apply⟨.inl ⟨rfl,_,SqL.of D⟩,?_⟩;apply .inl (zd t (v:=.str b) (qw (j:=0) rfl) ?_);show⟨p,_,_,rfl,rfl,D,by rw[ya];show qi (by lk),?_⟩;rw[show(ns.map V.str)++[V.str b]=(ns++[b]).map V.str by rw[yE];rfl];have B:BxD p H1 (upd J p (.lst ((ns++[b]).map V.str))):=fun c o n e=>by rw[qh n];show bJ c o n e
   have l:upd J p (.lst ((ns++[b]).map V.str)) p=some (.lst ((ns++[b]).map V.str)):=qc;generalize upd J p (.lst ((ns++[b]).map V.str))=J1 at B l;have U:∀{c:Addr} {o:HO},H c=some o->J1 c=some o:=fun e=>B _ _ (nd e) (X _ _ e);obtain⟨ab,v1,v2⟩:=k3 b ac;apply⟨1,rfl,?_⟩;show .inl (zd l (v:=.str b) (qaN (j:=1) (by decide) (by rw[ya,yz];show Nat.le_add_left _ _) (by rw[ya,yz,yd,show ns.length + [b].length-1=ns.length from rfl,xr];rfl)) ?_);show .inr ⟨d,_,rfl,get (U k1) v1,?_⟩;have C:=U v2;generalize M:nbL ss O g b=bs at C;have aa:bs.length<=14:=by rw[<- M];show yi (YB _ _) I
   show .inl ⟨⟨_,.of C⟩,jJ (xs:=bs.map V.str) (fun i ys G=>G=J1/\ys=((bs.take i).filter fun c=>!decide (c∈ns++[b])).map V.str) ⟨rfl,rfl⟩ (fun i ys G _ x=>by rw[x.1];show .of C) (fun i y ys G hy x=>?_) fun ys G x=>?_⟩
   .obtain⟨rfl,rfl⟩:=x;rw[yd] at hy;obtain⟨c,hx,rfl⟩:=yn.mp hy;have af:i<bs.length:=(yc.mp hx).1;have ag:((bs.take i).filter fun c=>!decide (c∈ns++[b])).length<=14:=yi (YB _ _) (by rw[yL];lk);rw[yR,hx,xQ];apply qd5 l ?_;show⟨_,rfl,qE (fun ho=>?_) (fun ho=>?_)⟩
    .ext;show⟨by rw[ya];show qi (by lk),rfl,?_⟩;show _=List.map V.str (_++[c].filter _);rw[YM,yG ho,yE];rfl
    .show⟨rfl,?_⟩;show _=List.map V.str (_++[c].filter _);rw[YM,yB ho,Xj,Yt]
   .obtain⟨rfl,rfl⟩:=x;rw[show(bs.map V.str).length=bs.length from ya ..,Yc];have ad:(bs.filter fun c=>!decide (c∈ns++[b])).length<=14:=yi (YB _ _) aa;show⟨by rw[ya];show yP (qi (by lk)),fun W u=>?_⟩;have s3:=qF (Sr G) (o:=.lst ((bs.filter fun c=>!decide (c∈ns++[b])).map V.str)) u;have n2:W≠p:=fun k=>by rw[k,l] at u;cases u
    show⟨m',xI _,?_⟩;rw[L];rw[M] at hS;show⟨W,ns++[b],_,rfl,fun c o n e=>s3 _ _ (B c o n e),s3 _ _ l,qc,n2,ad,hS,?_,by rw[yz];show m'+(ns.length+1)=15;lk⟩;rw[<- A,<- M];rfl
theorem Ka:FnScope ["web","one","other","near","parts","seen","ends","word","place","names","name"] ["web","one","other"] (qg jl):=fS
theorem yesK_in(h:y∈seen):qab (j8 seen) (.inr y:Key) (.bl true)=j8 seen:=by
 unfold qab;rw[zL,jA,yG (yD h)];unfold j8;rw[Xc];show Xd fun s _=>?_;show(if (Sum.inr s:Key)=Sum.inr y then _ else _)=_;split
 .rename_i e
  cases xY e;rfl
 .rfl
theorem qbA:∀(l sn:LS),ptF nb e (l++[z]) sn=ptF nb e l sn++(if (nb z).length=e/\z∉sn++(ptF nb e l sn).flatten then [wk nb z] else [])
 | [],sn=>by
  show(if (nb z).length=e/\z∉sn then wk nb z::[] else [])=[]++_;rw[XW];have a:sn++(ptF nb e [] sn).flatten=sn:=Yt _;rw[a]
 | x::l,sn=>by
  rw[XE];unfold ptF;by_cases h:(nb x).length=e/\x∉sn
  .rw [yG h,yG h,qbA l,Yu,<- YE];rfl
  .rw [yB h,yB h,qbA l]
def SnH(ss:LS)(H:Hp)(a:Addr)(sn:LS):Prop:=∃ l:LS,H a=some (.dK (j8 l))/\l.Nodup/\(∀ x∈l,x∈ss)/\∀ x,x∈l↔x∈sn
def BtO(B H:Hp)(t:Addr)(p:Str×LS):Prop:=∃ l,B l=none/\H t=some (.tup [.str p.1,.ref l])/\H l=some (.lst (p.2.map V.str))
def BtL(B:Hp)(a:Addr)(H:Hp)(t:Addr)(p:Str×LS):Prop:=∃ l,B l=none/\H t=some (.tup [.str p.1,.ref l])/\H l=some (.lst (p.2.map V.str))/\l≠a
def PtH(B H:Hp)(a:Addr)(acc:List (Str×LS)):Prop:=∃ ts:LI,H a=some (.lst (ts.map V.ref))/\All2 (BtL B a H) ts acc
noncomputable def ewF(i:Nat):Nat×Str:=if i=0 then(1, "row") else(2, "ring")
noncomputable def stA(nb:Str->LS)(ss:LS):Nat->List (Str×LS)×LS
 | 0=>([],[])
 | i+1=>((stA nb ss i).1++(ptF nb (ewF i).1 ss (stA nb ss i).2).map (fun Yw=>((ewF i).2,Yw)),(stA nb ss i).2++(ptF nb (ewF i).1 ss (stA nb ss i).2).flatten)
theorem PtH.same{b:Addr}{acc:List (Str×LS)}(h:PtH B H b acc)(s:L2.Same H H'):PtH B H' b acc:=by
 obtain⟨ts,e,a⟩:=h;show⟨ts,s _ _ e,a.mono fun _ _ ⟨l,c,d,f,n⟩=>⟨l,c,s _ _ d,s _ _ f,n⟩⟩
theorem SnH.same{a:Addr}{sn:LS}(h:SnH ss H a sn)(s:L2.Same H H'):SnH ss H' a sn:=by
 obtain⟨l,e,r⟩:=h;show⟨l,s _ _ e,r⟩
theorem qbB:∀(l sn:LS),(ptF nb e l sn).length<=l.length
 | [],_=>yh _
 | z::l,sn=>by
  unfold ptF;split
  .rw [yC,yC];show kC (qbB l _)
  .rw [yC];show Nat.le_succ_of_le (qbB l _)
theorem qcB:∀ i,(stA nb ss i).1.length<=i*ss.length
 | 0=>yU _
 | i+1=>by
  have h1:(stA nb ss i).1.length<=i*ss.length:=qcB i;have a:(ptF nb (ewF i).1 ss (stA nb ss i).2).length<=ss.length:=qbB ss (stA nb ss i).2;show((stA nb ss i).1++_).length<=_;rw[yz,ya,Nat.succ_mul];lk
noncomputable def qaD(ss:LS)(f g:Str->Option Str):List (LS):=ptF (nbL ss f g) 1 ss []
noncomputable def qar(ss:LS)(f g:Str->Option Str):List (LS):=ptF (nbL ss f g) 2 ss (qaD ss f g).flatten
noncomputable def qaO(ss:LS)(f g:Str->Option Str):List (Str×LS):=(qaD ss f g).map (fun Yw=>(("row":Str),Yw))++(qar ss f g).map fun Yw=>(("ring":Str),Yw)
noncomputable def qaE(ss:LS)(p:Str×LS):Int:=(ss.idxOf (hdW p.2):Nat)
noncomputable def lamPosE:Expr->Pos
 | .Call _ _ [⟨_,.Lambda _ _ _ p,_⟩] _=>p
 | _=>⟨0,0,0,0⟩
noncomputable def lamPos(s:Stmt):Pos:=match (jE s).getLast? with
 | some (.Return (some e) _)=>lamPosE e
 | _=>⟨0,0,0,0⟩
abbrev TbB(H:Hp)(P:Addr):Prop:=TbO H P (lamPos jl) ("between"++".<locals>."++"<lambda>")
inductive spBt(cw P:Addr)(vs:List V)(H:Hp)(Q:VK)(E:XK):Prop|mk (x l1 l2:Addr) (ss:LS) (ns:LN) (us1 us2:LI) (tps qs rs:LP) (_:vs=[.ref x,.ref l1,.ref l2]) (_:WebAt cw H x ss ns) (_:Adj ss ns tps) (_:PL H l1 us1 qs) (_:PGo ss tps qs) (_:PL H l2 us2 rs) (_:PGo ss tps rs) (_:DT ss tps) (_:TbB H P) (_:∀(D:Addr) (ts:LI) (ps:List (Str×LS)) (H':Hp),qcy P H H'->TbB H' P->H D=none->H' D=some (.lst (ts.map V.ref))->All2 (BtO H H') ts ps->ps.Perm (qaO ss (pt qs) (pt rs))->ps.Pairwise (fun p q=>qaE ss p<=qaE ss q)->Q (.ref D) H')
theorem PGo.pf(h:PGo ss tps qs):PF tps (pt qs):=⟨fun a b e=>(pt_sym h.nd).mp e,fun a b e=>(qa2 e).elim (fun z=>(h.inn _ z).1) fun z=>(h.inn _ z).1.symm⟩
theorem qdf{f:Str->Option Str}(i:ss.Nodup)(c:ss.length<=14)(d:DT ss tps)(pf:PF tps f)(h:PF tps g):Two ss f g:=⟨i,c,pf.sym,h.sym,fun a b e=>pf.inn d e,fun a b e=>h.inn d e⟩
theorem WebAt.butT{P:Addr}{ps:Array Value}(Yw:WebAt cw H x ss ns)(e:H P=some (.tbl ps))(b:qcy P H H'):WebAt cw H' x ss ns:=by
 obtain⟨h,f,ol,g,hb,a,d,c,hw⟩:=Yw;show⟨h,f,ol,g,b _ _ (jD hb e (by intro z;cases z)) hb,b _ _ (jD a e (by intro z;cases z)) a,b _ _ (jD d e (by intro z;cases z)) d,b _ _ (jD c e (by intro z;cases z)) c,hw⟩
theorem Two.heads{f:Str->Option Str}(T:Two ss f g):∀ p∈qaO ss f g,hdW p.2∈ss/\p.2[0]?=some (hdW p.2):=fun p c=>by
 have k:∀ e sn,∀ Yw∈ptF (nbL ss f g) e ss sn,hdW Yw∈ss/\Yw[0]?=some (hdW Yw):=fun e sn Yw a=>by
  obtain⟨z,b,rfl,_⟩:=(T.pts e ss sn fun z b=>b).1 Yw a;have w:=T.go b;rw[w.head.1];show⟨b,w.hd⟩
 unfold qaO at c;rcases yH.mp c with h | h
 .obtain⟨Yw,a,rfl⟩:=yQ.mp h;show k _ _ Yw a
 .obtain⟨Yw,a,rfl⟩:=yQ.mp h;show k _ _ Yw a
theorem qbl(c:α->β):∀ l:List α,Paired (fun a b=>b=c a) l (l.map c)
 | []=>.nil
 | _::l=>.cons rfl (qbl c l)
theorem qcf(c:α->β):∀{l:List α} {m:List β},Paired (fun a b=>b=c a) l m->m=l.map c
 | _,_,.nil=>rfl
 | _,_,.cons e h=>by rw[yJ,<- qcf c h,e]
theorem ok_bt{f:Addr}(F:Fun K "between" "between" jl f fd)(T:Txt K mg cc cw)(dm:fd.code=.ref c)(hC:W.CodeHd base c tb)(hB:base.BuiltinsAt mg tb)(Kw:DefOk P w K mg base CX0 7 "near_between" ["web","ones","others"] (spNb cw))(Kp:DefOk P w K mg base CX0 9 "partners_in" ["web","pairs"] (spPn cw))(K0:DefOk P w K mg base CX0 1 "walked" ["near","start"] spWk)(Kq:MethOk P w K mg base CX0 1 cw "places" ["self"] (spPls cw))(Kd:MethOk P w K mg base CX0 4 cw "number_of" ["self","place"] (spNum cw)):FnOk P w K mg base CX0 10 f fd ["web","one","other"] (spBt cw tb):=by
 show F.okC dm Ka (fun vs H Q E h=>?_) (fun A dv s H vs Q E hr h=>?_)
 .cases h;subst_vars;rfl
 .obtain⟨x,l1,l2,ss,ns,ea,eb,tps,qs,rs,rfl,Yw,hA,h1,g1,h2,g2,hD,hT,q⟩:=h;have hu:(A.deeper (envOfC "between" (qg jl) s.heap.objs.size f (.ref c))).units+100<cLine:=by have:=hr.un;lk
  have dq:Room (4+3) (A.deeper (envOfC "between" (qg jl) s.heap.objs.size f (.ref c))):=hr.mono (by decide);obtain⟨_,_,_,_,_,_,_,_,cx⟩:=id Yw;have cj:=cx.nd;have ai:=cx.few;show⟨_,(qb (qp (i:=3) Ka.nd rfl (yI rfl) (qo Kw (hmR hr) qy (qa (pv 0) (qa (qo Kp (hmR hr) qy (qa (pv 0) (qa (pv 1) qd))) (qa (qo Kp (hmR hr) qy (qa (pv 0) (qa (pv 2) qd))) qd)))))
 (qb (qp (i:=4) Ka.nd rfl (yI rfl) (qK qd))
 (qb (qp (i:=5) Ka.nd rfl (yI rfl) ju)
 (qb (qU yW rfl (qeI (K:=K) rfl (qV (qa (qV (qa qe (qa qZ qd))) (qa (qV (qa qe (qa qZ qd))) qd)))) (qa9 rfl (qQ (qu (i:=6) Ka.nd rfl (yI rfl)) (qQ (qu (i:=7) Ka.nd rfl (yI rfl)) qaw)))
 (qf (qU yW rfl (qM (K:=K) rfl (qaX Kq (hmR hr) (pv 0))) (qu (i:=8) Ka.nd rfl (yI rfl))
 (qf (qG (PW.pt (zC (qk (zy (K:=K) rfl hu) (qj (jw (K:=K) rfl) rfl T.b_len Yy (qa (qq (qr (K:=K) rfl hu) (pv 3) (pv 8) (fun _ _=>rfl)) qd)) (pv 6) (qx _)) (zj (qk (jH (K:=K) rfl hu) (pv 8) (pv 5) (by with_unfolding_all rfl))))) (qb (qp (i:=9) Ka.nd rfl (yI rfl) (qo K0 (hmR hr) qy (qa (pv 3) (qa (pv 8) qd))))
 (qb (q9 (qb2 (K:=K) rfl yO Ye Yg qL (pv 4) (qa (qV (qa (pv 7) (qa (pv 9) qd))) qd)))
 (qf (qU yW rfl (qM (K:=K) rfl (pv 9)) (qu (i:=10) Ka.nd rfl (yI rfl))
 (qf (qT jr (jp (pv 5) (pv 10) (jq hu)))))))) qv)))))
 (qf (qt (qc3 (K:=K) (iw:=0) rfl T.b_sorted rfl hC hB dq (pv 4) rfl rfl (qeH rfl rfl rfl rfl rfl (by room) (by room)) (by decide) rfl rfl rfl (fun _ _ _ _ _=>rfl) (fun _ _ _ _ _ dp=>have hr:=dp.deeper _;have hu:=qeJ hr;(qX Kd (hmR hr) (pv 1) (qa (qq (qr (K:=K) rfl hu) (qq (qr (K:=K) rfl hu) (pv 0) qe (fun _ _=>rfl)) qe (fun _ _=>rfl)) qd)))))))))),?_⟩
  apply⟨x,l1,ss,ns,ea,tps,qs,rfl,Yw,hA,h1,g1,fun d1 H1 s1 ed dj=>?_⟩;apply⟨x,l2,ss,ns,eb,tps,rs,rfl,Yw.same s1,hA,h2.same s1,g2,fun d2 H2 s2 ee dk=>?_⟩;apply⟨x,d1,d2,ss,ns,tps,qs,rs,rfl,(Yw.same s1).same s2,hA,s2 _ _ dj,dk,g1.pf,g2.pf,hD,fun nr H3 s3 hN=>?_⟩;have ay:=(s1.trans s2).trans s3;have T2:Two ss (pt qs) (pt rs):=qdf cj ai hD g1.pf g2.pf;apply⟨by show 0<=sizeLine;decide,fun d bi=>?_⟩;have s4:=qF ay (o:=.lst ([]:List V)) bi;have ar:upd H3 d (.lst []) d=some (.lst ([]:List V)):=qc;have bv:=qF (Sr H3) (o:=.lst ([]:List V)) bi;generalize upd H3 d (.lst [])=H4 at s4 ar bv;have df:=hN.same bv;ext;intro u aw;have az:=qF (Sr H4) (o:=.dK []) aw;have s5:=qF s4 (o:=.dK []) aw;have cb:upd H4 u (.dK []) u=some (.dK []):=qc;have cp:d≠u:=fun z=>by rw[z,aw] at ar;cases ar
  generalize upd H4 u (.dK [])=H5 at az s5 cb;have ca:=az _ _ ar;have dh:=df.same az;apply⟨by show 2<=sizeLine;decide,fun S cm=>?_⟩;have s6:=qF s5 (o:=.tup [.int 1,.str "row"]) cm;have cs:=qF (Sr H5) (o:=.tup [.int 1,.str "row"]) cm;have cd:upd H5 S (.tup [.int 1,.str "row"]) S=some (.tup [.int 1,.str "row"]):=qc;generalize upd H5 S (.tup [.int 1,.str "row"])=H6 at s6 cs cd;apply⟨by show 2<=sizeLine;decide,fun U bj=>?_⟩;have s7:=qF s6 (o:=.tup [.int 2,.str "ring"]) bj;have ct:=qF cs (o:=.tup [.int 2,.str "ring"]) bj;have R:=qF (Sr H6) (o:=.tup [.int 2,.str "ring"]) bj _ _ cd;have as:upd H6 U (.tup [.int 2,.str "ring"]) U=some (.tup [.int 2,.str "ring"]):=qc;generalize upd H6 U (.tup [.int 2,.str "ring"])=H7 at s7 ct R as;apply⟨by show 2<=sizeLine;decide,fun t3 bm=>?_⟩;have s8:=qF s7 (o:=.tup [.ref S,.ref U]) bm;have ap:=qF ct (o:=.tup [.ref S,.ref U]) bm;have N:=qF (Sr H7) (o:=.tup [.ref S,.ref U]) bm;have L:upd H7 t3 (.tup [.ref S,.ref U]) t3=some (.tup [.ref S,.ref U]):=qc;generalize upd H7 t3 (.tup [.ref S,.ref U])=H8 at s8 ap N L;have eh:=dh.same ap;have ad:=ap _ _ ca;have af:=ap _ _ cb
  have r:∀{b:Addr} {o:HO},H3 b=some o->b≠d/\b≠u/\H8 b=some o:=fun{b o} e=>by
   have n1:b≠d:=fun z=>by rw[z,bi] at e;cases e
   have e4:=bv _ _ e;have n2:b≠u:=fun z=>by rw[z,aw] at e4;cases e4
   show⟨n1,n2,ap _ _ (az _ _ e4)⟩
  generalize av:nbL ss (pt qs) (pt rs)=nb at *;show⟨t3,rfl,⟨_,SqT.of L⟩,for_tup (xs:=[.ref S,.ref U]) (fun i Y J=>(∀ b o,b≠d->b≠u->H8 b=some o->J b=some o)/\PtH H J d (stA nb ss i).1/\SnH ss J u (stA nb ss i).2/\∃ y6 y7 y8 y9 g,Y=[some (.ref x),some (.ref l1),some (.ref l2),some (.ref nr),some (.ref d),some (.ref u),y6,y7,y8,y9,g]) ⟨fun b o _ _ e=>e,⟨[],ad,.nil⟩,⟨[],af,.nil,(fun x h=>by cases h),fun x=>Iff.rfl⟩,_,_,_,_,_,rfl⟩ (fun i Y J _ B=>.of (B.1 _ _ (fun z=>by rw[z,ad] at L;cases L) (fun z=>by rw[z,af] at L;cases L) L)) (fun i y Y J I B=>?_) fun Y J B=>?_⟩
  .obtain⟨bJ,aj,bh,y6,y7,y8,y9,g,rfl⟩:=B
   obtain⟨ti,rfl,ce⟩:∃ ti,y=.ref ti/\J ti=some (.tup [.int ((ewF i).1:Nat),.str (ewF i).2]):=by
    have nt:∀{b:Addr} {xs:List V},H8 b=some (.tup xs)->b≠d/\b≠u:=fun e=>⟨fun z=>(by rw[z,ad] at e;cases e),fun z=>by rw[z,af] at e;cases e⟩
    match i,I with
    | 0,I=>cases I;show⟨S,rfl,bJ _ _ (nt (N _ _ R)).1 (nt (N _ _ R)).2 (N _ _ R)⟩
    | 1,I=>cases I;show⟨U,rfl,bJ _ _ (nt (N _ _ as)).1 (nt (N _ _ as)).2 (N _ _ as)⟩
    | i+2,I=>cases I
   show⟨ti,_,rfl,SqT.of ce,rfl,_,_,rfl,_,_,rfl,rfl,?_⟩;have am:stA nb ss (i+1)=((stA nb ss i).1++(ptF nb (ewF i).1 ss (stA nb ss i).2).map (fun Yw=>((ewF i).2,Yw)),(stA nb ss i).2++(ptF nb (ewF i).1 ss (stA nb ss i).2).flatten):=rfl
   have ec:(stA nb ss i).1.length<=28:=by
    have h1:=qcB (nb:=nb) (ss:=ss) i;have hi:i<2:=(yc.mp I).1;have:i*ss.length<=1*14:=Nat.mul_le_mul (by lk) ai;lk
   rw[am];generalize (ewF i).2=X at *;generalize (ewF i).1=en at *;generalize (stA nb ss i).1=acc at *;generalize (stA nb ss i).2=sn at *;clear am ce I;have sJ:L2.Same H3 J:=fun b o e=>bJ b o (r e).1 (r e).2.1 (r e).2.2;have WJ:=(Yw.same ay).same sJ;ext;obtain⟨wx,dd,ol,nn,hb,_⟩:=id WJ;show⟨x,wx,_,rfl,hb,qan (by room),?_⟩;apply⟨x,ss,ns,rfl,WJ,fun lb ak=>?_⟩;have sb:=qF (Sr J) (o:=.lst (ss.map V.str)) ak;have bc:upd J lb (.lst (ss.map V.str)) lb=some (.lst (ss.map V.str)):=qc;have cn:lb≠d:=fun z=>by obtain⟨ts,e,_⟩:=aj;rw[z,e] at ak;cases ak
   have co:lb≠u:=fun z=>by obtain⟨ts,e,_⟩:=bh;rw[z,e] at ak;cases ak
   generalize upd J lb (.lst (ss.map V.str))=J1 at sb bc;show .inl ⟨⟨_,.of bc⟩,qR (xs:=ss.map V.str) (fun j Y G=>(∀ b o,b≠d->b≠u->J1 b=some o->G b=some o)/\PtH H G d (acc++(ptF nb en (ss.take j) sn).map fun Yw=>(X,Yw))/\SnH ss G u (sn++(ptF nb en (ss.take j) sn).flatten)/\∃ y8 y9 g,Y=[some (.ref x),some (.ref l1),some (.ref l2),some (.ref nr),some (.ref d),some (.ref u),some (.int (en:Nat)),some (.str X),y8,y9,g]) ⟨fun b o _ _ e=>e,by rw[kS];unfold ptF;rw[kH,Yt];show aj.same sb,by rw[kS];unfold ptF;rw[List.flatten_nil,Yt];show bh.same sb,_,_,_,rfl⟩ (fun j Y G _ B=>.of (B.1 _ _ cn co bc)) (fun j y Y G I B=>?_) fun Y G B=>?_⟩
   .obtain⟨bG,Z,aa,y8,y9,g,rfl⟩:=B;rw[yd] at I;obtain⟨z,hz,rfl⟩:=yn.mp I;have bo:=ye hz;have ci:j<ss.length:=(yc.mp hz).1;have sG:L2.Same H3 G:=fun b o e=>bG b o (r e).1 (r e).2.1 (sb _ _ (sJ _ _ e));have tk:ss.take (j+1)=ss.take j++[z]:=by rw[yR,hz];rfl
    have pl:=qbB (nb:=nb) (e:=en) (ss.take j) sn;rw[yL] at pl;rw[tk,qbA];generalize ptF nb en (ss.take j) sn=pf at Z aa pl
    have stay:¬ ((nb z).length=en/\z∉sn++pf.flatten)->∀ bw,(∃ y8 y9 g,bw=[some (V.ref x),some (V.ref l1),some (V.ref l2),some (V.ref nr),some (V.ref d),some (V.ref u),some (V.int (en:Nat)),some (V.str X),y8,y9,g])->(∀ b o,b≠d->b≠u->J1 b=some o->G b=some o)/\PtH H G d (acc++(pf++(if (nb z).length=en/\z∉sn++pf.flatten then [wk nb z] else [])).map fun Yw=>(X,Yw))/\SnH ss G u (sn++(pf++(if (nb z).length=en/\z∉sn++pf.flatten then [wk nb z] else [])).flatten)/\∃ y8 y9 g,bw=[some (V.ref x),some (V.ref l1),some (V.ref l2),some (V.ref nr),some (V.ref d),some (V.ref u),some (V.int (en:Nat)),some (V.str X),y8,y9,g]:=fun h bw ds=>by
     rw[yB h,Yt];show⟨bG,Z,aa,ds⟩
    obtain⟨an,dg,da⟩:=(hN.same sG).get bo;apply .inr ⟨nr,_,rfl,dg,?_⟩;apply ze da ?_;rw[ya];apply qel ?_;apply qE (fun h1=>?_) (fun h1=>?_)
    .have db:(nb z).length=en:=by have:=yk h1;lk
     obtain⟨sl,be,dw,dy,aq⟩:=id aa;apply .inr (.inl ⟨u,_,rfl,DGet.k (k:=Sum.inr z) be,?_⟩);rw[yG rfl,jA];apply qE (fun h2=>?_) (fun h2=>?_)
     .have dc:z∉sn++pf.flatten:=fun k=>by rw[yD ((aq z).mpr k)] at h2;cases h2
      rw[yG ⟨db,dc⟩];apply⟨nr,ss,pt qs,pt rs,z,rfl,by rw[av];show hN.same sG,T2,bo,fun lw G1 cu al bd=>?_⟩;rw[av] at bd;have ax:=T2.go bo;rw[av] at ax;have eg:(wk nb z).length<=14:=yi (ji ax.nd ax.inn) ai;have cv:=ax.inn;obtain⟨ts,ag,ac⟩:=Z
      have bn:ts.length<=42:=by
       have:=ac.len;rw[yz,ya] at this;lk
      apply⟨.inl ⟨rfl,_,SqL.of (cu _ _ ag)⟩,?_⟩;apply⟨by show 2<=sizeLine;decide,fun tp dr=>?_⟩;have ba:=qF (Sr G1) (o:=.tup [.str X,.ref lw]) dr;have bf:upd G1 tp (.tup [.str X,.ref lw]) tp=some (.tup [.str X,.ref lw]):=qc;generalize upd G1 tp (.tup [.str X,.ref lw])=G2 at ba bf;have C:=cu.trans ba;have bb:=C _ _ ag;apply⟨d,_,_,rfl,rfl,bb,by rw[ya];show qi (by lk),?_⟩;rw[show(ts.map V.ref)++[V.ref tp]=(ts++[tp]).map V.ref by rw[yE];rfl];have bu:lw≠d:=fun k=>by rw[k,ag] at al;cases al
      have du:u≠d:=Yq cp;have kp:∀ b o,b≠d->G2 b=some o->upd G2 d (.lst ((ts++[tp]).map V.ref)) b=some o:=fun b o n e=>by rw[qh n];show e
      have cq:∀{b:Addr} {xs:List V},G2 b=some (.tup xs)->b≠d:=fun e k=>by rw[k,bb] at e;cases e
      have cg:PtH H (upd G2 d (.lst ((ts++[tp]).map V.ref))) d (acc++(pf++[wk nb z]).map fun Yw=>(X,Yw)):=by
       show⟨ts++[tp],qc,?_⟩;have em:(acc++(pf++[wk nb z]).map fun Yw=>(X,Yw))=(acc++pf.map fun Yw=>(X,Yw))++[(X,wk nb z)]:=by rw[yE,YE];rfl
       rw[em];show All2.snoc (ac.mono fun t p ⟨l,e0,e1,e2,n⟩=>⟨l,e0,kp _ _ (cq (C _ _ e1)) (C _ _ e1),kp _ _ n (C _ _ e2),n⟩) ⟨lw,(ay.trans sG).free al,kp _ _ (cq bf) bf,kp _ _ bu (ba _ _ bd),bu⟩
      have O:=kp _ _ du (C _ _ be);have ae:=kp _ _ bu (ba _ _ bd);have bx:∀ b o,b≠d->b≠u->J1 b=some o->upd G2 d (.lst ((ts++[tp]).map V.ref)) b=some o:=fun b o n1 n2 e=>kp b o n1 (C _ _ (bG b o n1 n2 e));generalize upd G2 d (.lst ((ts++[tp]).map V.ref))=G3 at cg O ae bx;have cr:lw≠u:=fun k=>by rw[k,be] at al;cases al
      apply .inl ⟨⟨_,.of ae⟩,qR (xs:=(wk nb z).map V.str) (fun k Y M=>(∀ b o,b≠u->G3 b=some o->M b=some o)/\SnH ss M u ((sn++pf.flatten)++(wk nb z).take k)/\∃ g,Y=[some (.ref x),some (.ref l1),some (.ref l2),some (.ref nr),some (.ref d),some (.ref u),some (.int (en:Nat)),some (.str X),some (.str z),some (.ref lw),g]) ⟨fun b o _ e=>e,⟨sl,O,dw,dy,fun y=>by rw[kS,Yt];show aq y⟩,_,rfl⟩ (fun k Y M _ B=>.of (B.1 _ _ cr ae)) (fun k y Y M I B=>?_) fun Y M B=>?_⟩
      .obtain⟨bM,⟨l,el,br,bq,bp⟩,g,rfl⟩:=B;rw[yd] at I;obtain⟨nm,ck,rfl⟩:=yn.mp I;have ei:l.length<=14:=yi (ji br bq) ai;apply .inr ⟨u,_,rfl,DPut.k (k:=Sum.inr nm) el (by unfold j8;rw[ya];show qi (by lk)),?_⟩;show⟨fun b o n e=>by rw[qh n];show bM b o n e,?_,_,rfl⟩;rw[yR,ck,<- YE];by_cases au:nm∈l
       .rw [yesK_in au];show⟨l,qc,br,bq,fun y=>?_⟩;rw[bp y];show⟨Yb _,fun k=>(yH.mp k).elim id fun k=>?_⟩;rw[yx.mp k];show(bp nm).mp au
       .rw [zu au];show⟨l++[nm],qc,yZ.mpr ⟨br,xi _ _,fun a ha b hb e=>?_⟩,fun y I=>?_,fun y=>?_⟩
        .rw [yx.mp hb] at e;rw[e] at ha;show au ha
        .rcases yH.mp I with k | k
         .show bq y k
         .rw [yx.mp k];show cv _ (ye ck)
        .rw [yH,yH,bp y];rfl
      .obtain⟨bM,ch,g,rfl⟩:=B;rw[show((wk nb z).map V.str).length=(wk nb z).length from ya ..,Yc] at ch;show⟨fun b o n1 n2 e=>bM b o n2 (bx b o n1 n2 e),?_,?_,_,_,_,rfl⟩
       .obtain⟨dz,e1,e2⟩:=cg;show⟨dz,bM _ _ cp e1,e2.mono fun t p ⟨l,k0,k1,k2,n⟩=>⟨l,k0,bM _ _ (fun k=>by rw[k,O] at k1;cases k1) k1,bM _ _ (fun k=>by rw[k,O] at k2;cases k2) k2,n⟩⟩
       .rw [Xf,<- YE];have e1:([wk nb z]:List (LS)).flatten=wk nb z:=by simp
        rw[e1];show ch
     .ext;show stay (fun k=>h2 (by rw[yl (fun y=>k.2 ((aq z).mp y))];rfl)) _ ⟨_,_,_,rfl⟩
    .show yq ?_;apply stay (fun k=>h1 (yD (by have:=k.1;lk))) _ ⟨_,_,_,rfl⟩
   .obtain⟨bG,Z,aa,y8,y9,g,rfl⟩:=B;rw[show(ss.map V.str).length=ss.length from ya ..,Yc] at Z aa;show⟨fun b o n1 n2 e=>bG b o n1 n2 (sb _ _ (bJ b o n1 n2 e)),Z,aa,_,_,_,_,_,rfl⟩
  .obtain⟨bJ,aj,bh,y6,y7,y8,y9,g,rfl⟩:=B;have sJ:L2.Same H3 J:=fun b o e=>bJ b o (r e).1 (r e).2.1 (r e).2.2;have ao:=ay.trans sJ
   have e2:(stA nb ss ([V.ref S,V.ref U]:List V).length).1=qaO ss (pt qs) (pt rs):=by
    unfold qaO qar qaD;rw[av];show([]++_)++_=_;rw[XW];rfl
   rw[e2] at aj;have dl:=T2.heads
   have ef:(qaO ss (pt qs) (pt rs)).length<=28:=by
    rw[<- e2];have h1:=qcB (nb:=nb) (ss:=ss) ([V.ref S,V.ref U]:List V).length;have:([V.ref S,V.ref U]:List V).length*ss.length<=2*14:=Nat.mul_le_mul (yh _) ai;lk
   generalize ej:qaO ss (pt qs) (pt rs)=PT at *;obtain⟨ts,ag,ac⟩:=aj;have bn:=ac.len;obtain⟨ek,hP,_⟩:=id hT;have bg:=ao _ _ hP;have bz:∀{H':Hp} {t:Addr} {p:Str×LS},qcy tb J H'->BtL H d J t p->BtO H H' t p:=fun{H' t p} b ⟨l,k0,k1,k2,_⟩=>⟨l,k0,b _ _ (jD k1 bg (by intro z;cases z)) k1,b _ _ (jD k2 bg (by intro z;cases z)) k2⟩;apply⟨_,rfl,?_⟩;show⟨d,ts.map V.ref,PT.map (qaE ss),.ref x,rfl,SqL.of ag,by rw[ya,ya,bn],by rw[ya];lk,hT.same ao,rfl,fun i v k H' hv hk bt=>?_,fun D ys H' bt di de eD ks=>?_⟩
   .rw [yd] at hv hk;obtain⟨t,ht,rfl⟩:=yn.mp hv;obtain⟨p,B,rfl⟩:=yn.mp hk;obtain⟨l,_,k1,k2⟩:=bz bt (ac.at_ i t p ht B);obtain⟨cy,cz⟩:=dl p (ye B);have WH:=(Yw.same ao).butT bg bt;obtain⟨wx,dd,ol,nn,hb,_⟩:=id WH;apply⟨x,wx,_,rfl,hb,qan (by room),?_⟩;apply .inl (.inr (.inl ⟨t,_,_,_,rfl,rfl,SqT.of k1,rfl,?_⟩));apply .inl (zd k2 (v:=.str (hdW p.2)) (qw (j:=0) (by rw[yd,cz];rfl)) ?_)
    have dn:ss[ss.idxOf (hdW p.2)]?=some (hdW p.2):=by
     obtain⟨j,hj⟩:=yf cy;obtain⟨ci,e⟩:=yc.mp hj;have:ss.idxOf (hdW p.2)=j:=by rw[<- e];show cj.idxOf_getElem j ci
     rw[this];show hj
    show⟨x,ss,ns,hdW p.2,ss.idxOf (hdW p.2),rfl,WH,dn,fun H2 s2=>⟨rfl,s2⟩⟩
   .obtain⟨pz,z1,rfl,z3⟩:=ks
    have hz:(PT.map (qaE ss)).zip (ts.map V.ref)=(PT.zip ts).map fun a=>(qaE ss a.1,V.ref a.2):=by
     rw[List.zip_map];rfl
    rw[hz] at z1;obtain⟨m,m1,m2⟩:=qaZ z1.symm (qbl (fun a:(Str×LS)×Addr=>(qaE ss a.1,V.ref a.2)) (PT.zip ts));have m3:=qcf _ m2;subst m3;have cf:(PT.zip ts).map Prod.fst=PT:=List.map_fst_zip (Xb bn.symm);show q D (m.map Prod.snd) (m.map Prod.fst) H' (fun b o n e=>bt b o n (ao _ _ e)) di (ao.free de) (by rw[eD,Xc,Xc];rfl) ⟨by rw[ya,ya],fun k t p ht B=>?_⟩ ?_ ?_
    .rw [yd] at ht B;obtain⟨a,ha,rfl⟩:=yn.mp ht;rw[ha] at B;cases B;have hm:=m1.mem_iff.mp (ye ha);obtain⟨j,hj⟩:=yf hm;rw[List.getElem?_zip_eq_some] at hj;show bz bt (ac.at_ j _ _ hj.2 hj.1)
    .have:=m1.map Prod.fst;rw[cf] at this;show this
    .show YV.mpr ((YV.mp z3).imp fun h=>h)
structure RgW(ss:LS)(f g:Str->Option Str)(Yw:LS):Prop where
 nd:Yw.Nodup
 inn:∀ x∈Yw,x∈ss
 four:4<=Yw.length
 st:∀(i:Nat) a b,Yw[i]?=some a->Yw[i+1]?=some b->Dx f g a b=true
 clo:∀ a b,Yw[Yw.length-1]?=some a->Yw[0]?=some b->Dx f g a b=true
 two:∀ x∈Yw,(nbL ss f g x).length=2
 cl:ClD f g Yw
section
variable{ss:LS}{f g:Str->Option Str}
theorem qd6(nb:Str->LS):∀(n:Nat) (ns ah:LS) (i:Nat) (x:Str),ns[i]?=some x->(wkF nb n ns ah)[i]?=some x
 | 0,_,_,_,_,h=>h
 | _+1,_,[],_,_,h=>h
 | n+1,ns,b::r,i,x,h=>by
  unfold wkF;show qd6 nb n _ _ i x (by rw[yT (yc.mp h).1];show h)
theorem wk_one(nb:Str->LS){r:LS}(h:nb z=b::r):(wk nb z)[1]?=some b:=by
 unfold wk;rw[h];unfold wkF;show qd6 nb 13 _ _ 1 b rfl
theorem Two.deg(T:Two ss f g){x:Str}(h:Dx f g x y=true):(nbL ss f g x).length=1\/(nbL ss f g x).length=2:=by
 have o:=T.mem.mpr h;have e:=T.nbnd x;have i:∀ a∈nbL ss f g x,∀ b∈nbL ss f g x,∀ c∈nbL ss f g x,a≠b->c=a\/c=b:=fun a n b hb c hc d=>T.third (T.mem.mp n) (T.mem.mp hb) (T.mem.mp hc) d
 match nbL ss f g x,o,e,i with
 | [_],_,_,_=>show .inl rfl
 | [_,_],_,_,_=>show .inr rfl
 | a::b::c::r,_,e,i =>
  obtain⟨j,l⟩:=yo.mp e;obtain⟨m,_⟩:=yo.mp l;rcases i a (by simp) b (by simp) c (by simp) (fun q=>j (by rw[q];simp)) with q | q
  .show absurd (by rw[<- q];simp) j
  .show absurd (by rw[<- q];simp) m
theorem Two.other(T:Two ss f g){x:Str}(m:(nbL ss f g x).length=2)(h:Dx f g x y=true):∃ c,c≠y/\Dx f g x c=true:=by
 have l:=T.mem.mpr h;have i:=T.nbnd x;have d:∀ c∈nbL ss f g x,Dx f g x c=true:=fun c hc=>T.mem.mp hc
 match nbL ss f g x,m,l,i,d with
 | [a,b],_,l,i,d =>
  have j:a≠b:=fun e=>by rw[e] at i;simp at i
  by_cases e:y=a
  .show⟨b,fun k=>j (e.symm.trans k.symm),d b (by simp)⟩
  .show⟨a,fun k=>e k.symm,d a (by simp)⟩
theorem Two.alt(T:Two ss f g){r:Str}(h1:Dx f g s r=true)(b:Dx f g s t=true)(a:r≠t):f s=some r↔¬ f s=some t:=by
 rw[dx_iff] at h1 b;constructor
 .intro c d;show a (ym (c.symm.trans d))
 .intro e;rcases b with⟨z,_⟩ | ⟨_,z⟩
  .show absurd z e
  .rcases h1 with⟨y,_⟩ | ⟨_,y⟩
   .show y
   .show absurd (ym (y.symm.trans z)) a
theorem Two.ring(T:Two ss f g)(hU:ClD f g U)(M:∀ z∈ss,(nbL ss f g z).length=1->z∈U)(hz:z∈ss)(W:z∉U)(h2:(nbL ss f g z).length=2):RgW ss f g (wk (nbL ss f g) z)/\∃ b c,nbL ss f g z=[b,c]/\(wk (nbL ss f g) z)[1]?=some b/\(wk (nbL ss f g) z)[(wk (nbL ss f g) z).length-1]?=some c:=by
 have w:=T.go hz;have out:=w.out T hU W
 obtain⟨b,c,l⟩:∃ b c,nbL ss f g z=[b,c]:=by
  match nbL ss f g z,h2 with
  | [b,c],_=>show⟨b,c,rfl⟩
 have D:=wk_one (nbL ss f g) l;generalize wk (nbL ss f g) z=Yw at w out D;have C:=T.nbnd z;rw[l] at C;have s:b≠c:=fun e=>by rw[e] at C;simp at C
 have E:Dx f g z b=true:=T.mem.mp (by rw[l];simp);have F:Dx f g z c=true:=T.mem.mp (by rw[l];simp);have ac:1<Yw.length:=(yc.mp D).1;have deg2:∀ x∈Yw,∀ y,Dx f g x y=true->(nbL ss f g x).length=2:=fun x d y R=>(T.deg R).resolve_left fun h=>out x d (M x (w.inn x d) h)
 have K:∀(i:Nat) x,0<i->i+1<Yw.length->Yw[i]?=some x->∀ y,Dx f g x y=true->Yw[i-1]?=some y\/Yw[i+1]?=some y:=fun i x h0 h1 d y R=>by
  obtain⟨p,r⟩:∃ p,Yw[i-1]?=some p:=⟨_,yb (by lk)⟩;obtain⟨q,B⟩:∃ q,Yw[i+1]?=some q:=⟨_,yb h1⟩;have A:=T.sym (w.st (i-1) p x r (by rw[show i-1+1=i by lk];show d));have dq:=w.st i x q d B;have P:p≠q:=fun e=>by have:=ndx w.nd r (e ▸ B);lk
  rcases T.third A dq R P with e | e
  .rw [e];show .inl r
  .rw [e];show .inr B
 obtain⟨x,d⟩:∃ x,Yw[Yw.length-1]?=some x:=⟨_,yb (by lk)⟩;obtain⟨p,r⟩:∃ p,Yw[Yw.length-2]?=some p:=⟨_,yb (by lk)⟩;have A:=T.sym (w.st (Yw.length-2) p x r (by rw[show Yw.length-2+1=Yw.length-1 by lk];show d));have I:=ye d;obtain⟨y,n,o⟩:=T.other (deg2 x I p A) A
 have S:y=z/\2<Yw.length:=by
  rcases w.nxt x d y o with k | k
  .obtain⟨j,t⟩:=yf k;have aa:j<Yw.length:=(yc.mp t).1
   have j1:j≠Yw.length-1:=fun e=>by
    rw[e,d] at t;show(T.inn o).2.2 (ym t)
   have j2:j≠Yw.length-2:=fun e=>by
    rw[e,r] at t;show n (ym t).symm
   by_cases j0:j=0
   .rw [j0,w.hd] at t;show⟨(ym t).symm,by lk⟩
   .rcases K j y (by lk) (by lk) t x (T.sym o) with k | k
    .have:=ndx w.nd k d;lk
    .have:=ndx w.nd k d;lk
  .cases k
 obtain⟨rfl,ad⟩:=S;have N:∀ q,Dx f g x q=true->q=p\/q=y:=fun q B=>T.third A o B (fun e=>n e.symm);have J:x≠b:=fun e=>by have:=ndx w.nd d (e ▸ D);lk
 have ec:x=c:=by
  rcases T.third E F (T.sym o) s with e | e
  .show absurd e J
  .show e
 have d1:=w.st 0 y b w.hd D
 have cl:ClD f g Yw:=fun u H v hv=>by
  obtain⟨i,m⟩:=yf H;have O:i<Yw.length:=(yc.mp m).1;by_cases i0:i=0
  .rw [i0,w.hd] at m;cases m;rcases T.third E F hv s with e | e
   .rw [e];show ye D
   .rw [e,<- ec];show I
  .by_cases X:i=Yw.length-1
   .rw [X,d] at m;cases m;rcases N v hv with e | e
    .rw [e];show ye r
    .rw [e];show ye w.hd
   .rcases K i u (by lk) (by lk) m v hv with k | k
    .show ye k
    .show ye k
 show⟨⟨w.nd,w.inn,?_,w.st,fun a b' ha hb=>?_,fun u H=>?_,cl⟩,b,c,l,D,by rw[<- ec];show d⟩
 .show Yp fun hn=>?_;have h3:Yw.length=3:=by lk
  have G:Yw[1]?=some p:=by rw[h3] at r;show r
  rw[D] at G;cases G;have a1:=T.alt (T.sym d1) (T.sym A) (fun e=>(T.inn o).2.2 e.symm);have a2:=T.alt A o (fun e=>n e.symm);have a3:=T.alt (T.sym o) d1 J;have s1:f y=some b↔f b=some y:=⟨T.fs _ _,T.fs _ _⟩;have s2:f x=some b↔f b=some x:=⟨T.fs _ _,T.fs _ _⟩;have s3:f x=some y↔f y=some x:=⟨T.fs _ _,T.fs _ _⟩;by_cases L:f b=some y
  .have Y:=a1.mp L;have Z:¬ f x=some b:=fun q=>Y (s2.mp q);have k4:f x=some y:=Yp fun q=>Z (a2.mpr q);show(a3.mp (s3.mp k4)) (s1.mpr L)
  .have Y:f b=some x:=Yp fun q=>L (a1.mpr q);have Z:=a2.mp (s2.mpr Y);have k4:f y=some x:=a3.mpr fun q=>L (s1.mp q);show Z (s3.mpr k4)
 .rw [d] at ha;cases ha;rw[w.hd] at hb;cases hb;show o
 .obtain⟨i,m⟩:=yf H;have O:i<Yw.length:=(yc.mp m).1;by_cases X:i+1<Yw.length
  .obtain⟨q,B⟩:∃ q,Yw[i+1]?=some q:=⟨_,yb X⟩;show deg2 u H q (w.st i u q m B)
  .rw [show i=Yw.length-1 by lk,d] at m;cases m;show deg2 _ H _ o
end
section
variable{ss:LS}{f g:Str->Option Str}
theorem Two.parts(T:Two ss f g)(c:∀ z∈ss,(nbL ss f g z).length=e->z∉U->ClD f g (wk (nbL ss f g) z)):∀(pl a seen:LS),ss=a++pl->(∀ x∈a,(nbL ss f g x).length=e->x∈seen)->(∀ x∈U,x∈seen)->ClD f g seen ->
  (∀ Yw∈ptF (nbL ss f g) e pl seen,(∀ x∈Yw,x∉seen)/\∀ x∈Yw,(nbL ss f g x).length=e->ss.idxOf (hdW Yw)<=ss.idxOf x)/\(ptF (nbL ss f g) e pl seen).Pairwise (fun V Yw=>∀ x∈Yw,x∉V)
 | [],_,_,_,_,_,_=>⟨(fun Yw h=>by cases h),.nil⟩
 | z::r,a,seen,hs,hp,hU,hc=>by
  have m:z∈ss:=by rw[hs];simp
  have n:=T.go m;have l:ss=(a++[z])++r:=by rw[hs];simp
  have t:ss.idxOf z=a.length:=by
   have h1:ss[a.length]?=some z:=by rw[hs,Yv (yh _),Nat.sub_self];rfl
   obtain⟨hl,o⟩:=yc.mp h1;rw[<- o];show T.nd.idxOf_getElem _ hl
  unfold ptF;by_cases h:(nbL ss f g z).length=e/\z∉seen
  .rw [yG h];have out:=n.out T hc h.2;have cl:=c z m h.1 fun k=>h.2 (hU z k)
   obtain⟨y,A⟩:=Two.parts T c r (a++[z]) (seen++wk (nbL ss f g) z) l (fun x b d=>by
    rcases yH.mp b with k | k
    .show Yb _ (hp x k d)
    .rw [yx.mp k];show yM _ n.head.2) (fun x b=>Yb _ (hU x b)) (hc.app cl)
   show⟨fun Yw p=>?_,Y5.mpr ⟨fun Yw p x b q=>(y Yw p).1 x b (yM _ q),A⟩⟩;rcases yA.mp p with k | k
   .rw [k];show⟨out,fun x b d=>?_⟩;rw[n.head.1,t];show Nat.le_of_not_lt fun i=>out x b ?_;obtain⟨j,u⟩:=yf (n.inn x b);obtain⟨v,o⟩:=yc.mp u;have s:ss.idxOf x=j:=by rw[<- o];show T.nd.idxOf_getElem j v
    rw[s] at i;have w:a[j]?=some x:=by rw[hs,yT i] at u;show u
    show hp x (ye w) d
   .show⟨fun x b q=>(y Yw k).1 x b (Yb _ q),(y Yw k).2⟩
  .rw [yB h]
   show Two.parts T c r (a++[z]) seen l (fun x b d=>by
    rcases yH.mp b with k | k
    .show hp x k d
    .rw [yx.mp k] at d ⊢;show Yp fun q=>h ⟨d,q⟩) hU hc
theorem Two.deg2(T:Two ss f g){x c:Str}(h1:Dx f g x y=true)(h:Dx f g x c=true)(b:y≠c):(nbL ss f g x).length=2:=by
 rcases T.deg h1 with k | k
 .have d:=T.mem.mpr h1;have e:=T.mem.mpr h
  match nbL ss f g x,k,d,e with
  | [a],_,d,e=>show absurd ((yx.mp d).trans (yx.mp e).symm) b
 .show k
theorem RwW.deg(T:Two ss f g)(h:RwW ss f g Yw):(Yw.map fun x=>(nbL ss f g x).length).sum+2=2*Yw.length:=by
 have D:=h.two
 obtain⟨a,m,b,rfl⟩:∃ a m b,Yw=a::(m++[b]):=by
  match Yw,D with
  | a::x::r,_=>show⟨a,(x::r).dropLast,(x::r).getLast (by simp),by rw[List.dropLast_concat_getLast]⟩
 have hl:(a::(m++[b])).length=m.length+2:=by simp
 have o:(a::(m++[b]))[0]?=some a:=rfl;have s:(a::(m++[b]))[m.length+1]?=some b:=by rw[List.getElem?_cons_succ,xr]
 have A:(nbL ss f g a).length=1:=by
  obtain⟨t,c⟩:∃ t,(a::(m++[b]))[1]?=some t:=⟨_,yb (by rw[hl];lk)⟩;show T.one (h.adj a t ⟨0,.inl ⟨o,c⟩⟩) fun y d=>h.fst a t y o c d
 have B:(nbL ss f g b).length=1:=by
  obtain⟨t,c⟩:∃ t,(a::(m++[b]))[m.length]?=some t:=⟨_,yb (by rw[hl];lk)⟩;show T.one (h.adj b t ⟨m.length,.inr ⟨c,s⟩⟩) fun y d=>h.lst b t y (by rw[hl];show s) (by rw[hl];show c) d
 have C:∀ x∈m,(nbL ss f g x).length=2:=fun x j=>by
  obtain⟨i,v⟩:=yf j;have n:i<m.length:=(yc.mp v).1;have u:(a::(m++[b]))[i+1]?=some x:=by rw[List.getElem?_cons_succ,yT n];show v
  obtain⟨p,w⟩:∃ p,(a::(m++[b]))[i]?=some p:=⟨_,yb (by rw[hl];lk)⟩;obtain⟨q,z⟩:∃ q,(a::(m++[b]))[i+2]?=some q:=⟨_,yb (by rw[hl];lk)⟩;show T.deg2 (h.adj x p ⟨i,.inr ⟨w,u⟩⟩) (h.adj x q ⟨i+1,.inl ⟨u,z⟩⟩) fun e=>by have:=ndx h.nd w (e ▸ z);lk
 have E:∀ l:LS,(∀ x∈l,(nbL ss f g x).length=2)->(l.map fun x=>(nbL ss f g x).length).sum=2*l.length:=fun l=>by
  induction l with
  | nil=>intro _;rfl
  | cons x l ih =>
   intro j;rw[yJ,Yi,j x yy,ih fun y d=>j y (yu _ d),yC];lk
 rw[yJ,Yi,yE,Xl,E m C,A,hl];show 1+(2*m.length+([(nbL ss f g b).length]).sum)+2=_;rw[B];simp;lk
theorem RgW.deg(h:RgW ss f g Yw):(Yw.map fun x=>(nbL ss f g x).length).sum=2*Yw.length:=by
 have c:∀ l:LS,(∀ x∈l,(nbL ss f g x).length=2)->(l.map fun x=>(nbL ss f g x).length).sum=2*l.length:=fun l=>by
  induction l with
  | nil=>intro _;rfl
  | cons x l ih =>
   intro a;rw[yJ,Yi,a x yy,ih fun y b=>a y (yu _ b),yC];lk
 show c Yw h.two
end
theorem qdg{l m:LN}(p:l.Perm m):l.sum=m.sum:=by
 induction p with
 | nil=>rfl
 | cons x _ ih=>rw[Yi,Yi,ih]
 | swap x y l=>rw[Yi,Yi,Yi,Yi];lk
 | trans _ _ i1 i2=>show i1.trans i2
theorem qeR{h:Str->Nat}:∀{l ss:LS},ss.Nodup->l.Nodup->(∀ x∈l,x∈ss)->(∀ x∈ss,x∉l->h x=0)->(ss.map h).sum=(l.map h).sum:=fun{l ss} c hl b a=>by
 have p:(ss.filter fun x=>decide (x∈l)).Perm l:=(List.perm_ext_iff_of_nodup (c.filter _) hl).mpr fun x=>by
  rw[yp,xP];show⟨fun k=>k.2,fun k=>⟨b x k,k⟩⟩
 rw[<- qdg (p.map h)];clear p c hl b
 induction ss with
 | nil=>rfl
 | cons x r ih =>
  rw[yJ,Yi,ih fun y d=>a y (yu _ d),YM];by_cases k:x∈l
  .rw [yG (yD k),yJ,Yi]
  .rw [yB (by rw[yl k];show Yh),a x yy k,xq]
theorem qbC(k:α->Str)(a:ss.Nodup):∀(l:List α),(∀ t∈l,k t∈ss)->(ss.map fun x=>(l.filter fun t=>decide (k t=x)).length).sum=l.length
 | [],_=>by
  have:(ss.map fun x=>(([]:List α).filter fun t=>decide (k t=x)).length)=ss.map fun _=>0:=rfl;rw[this];clear this a
  induction ss with
  | nil=>rfl
  | cons x r b=>rw[yJ,Yi,xq];show b fun t f=>by cases f
 | t::l,h=>by
  have b:=qbC k a l fun u i=>h u (yu _ i)
  have e:∀ x,((t::l).filter fun t=>decide (k t=x)).length=(if k t=x then 1 else 0)+(l.filter fun t=>decide (k t=x)).length:=fun x=>by
   rw[YM];by_cases z:k t=x
   .rw [yG (yD z),yG z,yC];lk
   .rw [yB (by rw[yl z];show Yh),yB z];lk
  have sp:∀(ss:LS) (p q:Str->Nat),(ss.map fun x=>p x+q x).sum=(ss.map p).sum+(ss.map q).sum:=fun ss p q=>by
   induction ss with
   | nil=>rfl
   | cons x r b=>rw[yJ,yJ,yJ,Yi,Yi,Yi,b];lk
  have one:∀{ss:LS},ss.Nodup->k t∈ss->(ss.map fun x=>if k t=x then 1 else 0).sum=1:=fun{ss} a d=>by
   rw[qeR (l:=[k t]) a (xi _ _) (fun x c=>by rw[yx.mp c];show d) fun x _ c=>yB fun e=>c (by rw[e];simp)];simp
  rw[Xd (g:=fun x=>(if k t=x then 1 else 0)+(l.filter fun t=>decide (k t=x)).length) fun x _=>e x,sp,b,one a (h t yy),yC];lk
noncomputable def unL(tps:LP)(f g:Str->Option Str):LP:=tps.filter fun t=>Dx f g t.1 t.2
section
variable{ss:LS}{tps:LP}{f g:Str->Option Str}
theorem Two.at_un(T:Two ss f g)(u:DT ss tps)(pf:PF tps f)(C:PF tps g)(x:Str):(nbL ss f g x).length=((unL tps f g).filter fun t=>decide (t.1=x)).length+((unL tps f g).filter fun t=>decide (t.2=x)).length:=by
 have i:∀{a b:Str},(a,b)∈unL tps f g↔(a,b)∈tps/\Dx f g a b=true:=fun{a b}=>yp;have n:(unL tps f g).Nodup:=u.nd.filter _
 have p:(nbL ss f g x).Perm ((((unL tps f g).filter fun t=>decide (t.1=x)).map Prod.snd)++(((unL tps f g).filter fun t=>decide (t.2=x)).map Prod.fst)):=by
  show(List.perm_ext_iff_of_nodup (T.nbnd x) (yZ.mpr ⟨?_,?_,fun y B E r e=>?_⟩)).mpr fun y=>?_
  .show YV.mpr ((n.filter _).imp_of_mem fun{p q} c j d e=>d ?_);have h1:=yk (yp.mp c).2;have o:=yk (yp.mp j).2;show Xu (h1.trans o.symm) e
  .show YV.mpr ((n.filter _).imp_of_mem fun{p q} c j d e=>d ?_);have h1:=yk (yp.mp c).2;have o:=yk (yp.mp j).2;show Xu e (h1.trans o.symm)
  .subst e;obtain⟨p,c,rfl⟩:=yQ.mp B;obtain⟨q,j,e⟩:=yQ.mp r;obtain⟨l,m⟩:=yp.mp c;obtain⟨v,D⟩:=yp.mp j;have w:=yk m;have z:=yk D;have A:q=(p.2,p.1):=Xu e (z.trans w.symm);rw[A] at v;show u.one p (i.mp l).1 (i.mp v).1
  .rw [T.mem,yH,yQ,yQ];constructor
   .intro h
    have s:(x,y)∈tps\/(y,x)∈tps:=by
     rcases dx_iff.mp h with⟨k,_⟩ | ⟨_,k⟩
     .show pf.tie _ _ k
     .show C.tie _ _ k
    rcases s with k | k
    .show .inl ⟨(x,y),yp.mpr ⟨i.mpr ⟨k,h⟩,yD rfl⟩,rfl⟩
    .show .inr ⟨(y,x),yp.mpr ⟨i.mpr ⟨k,T.sym h⟩,yD rfl⟩,rfl⟩
   .rintro (⟨p,c,rfl⟩ | ⟨p,c,rfl⟩)
    .obtain⟨l,m⟩:=yp.mp c;rw[<- yk m];show(i.mp l).2
    .obtain⟨l,m⟩:=yp.mp c;rw[<- yk m];show T.sym (i.mp l).2
 rw[p.length_eq,yz,ya,ya]
theorem sum_two(ss:LS)(p q:Str->Nat):(ss.map fun x=>p x+q x).sum=(ss.map p).sum+(ss.map q).sum:=by
 induction ss with
 | nil=>rfl
 | cons x r ih=>rw[yJ,yJ,yJ,Yi,Yi,Yi,ih];lk
theorem Two.hand(T:Two ss f g)(a:DT ss tps)(pf:PF tps f)(c:PF tps g):(ss.map fun x=>(nbL ss f g x).length).sum=2*(unL tps f g).length:=by
 rw[Xd fun x _=>T.at_un a pf c x,sum_two,qbC Prod.fst T.nd (unL tps f g) fun t b=>(a.ok t (yp.mp b).1).1,qbC Prod.snd T.nd (unL tps f g) fun t b=>(a.ok t (yp.mp b).1).2.1];lk
theorem qbD(h:Str->Nat)(c:LS->Nat):∀{L:List (LS)},(∀ Yw∈L,(Yw.map h).sum=2*c Yw)->(L.flatten.map h).sum=2*(L.map c).sum
 | [],_=>rfl
 | Yw::L,hL=>by
  rw[Yu,yE,Xl,hL Yw yy,qbD h c fun V a=>hL V (yu _ a),yJ,Yi];lk
theorem qcC:∀{L:List (LS)},(∀ Yw∈L,Yw.Nodup)->L.Pairwise (fun V Yw=>∀ x∈Yw,x∉V)->L.flatten.Nodup
 | [],_,_=>.nil
 | Yw::L,h,p=>by
  obtain⟨f,g⟩:=Y5.mp p;rw[Yu];show yZ.mpr ⟨h Yw yy,qcC (fun V c=>h V (yu _ c)) g,fun a d b hb e=>?_⟩;subst e;obtain⟨V,c,k⟩:=YH.mp hb;show f V c a k d
structure PtA(ss:LS)(f g:Str->Option Str)(R G:List (LS)):Prop where
 row:∀ Yw∈R,RwW ss f g Yw/\∀ x∈Yw,(nbL ss f g x).length=1->ss.idxOf (hdW Yw)<=ss.idxOf x
 ring:∀ Yw∈G,RgW ss f g Yw/\(∀ x∈Yw,ss.idxOf (hdW Yw)<=ss.idxOf x)/\∃ z b c,Yw[0]?=some z/\nbL ss f g z=[b,c]/\Yw[1]?=some b/\Yw[Yw.length-1]?=some c
 nd:(R.flatten++G.flatten).Nodup
 all:∀ x∈ss,(nbL ss f g x).length≠0->x∈R.flatten++G.flatten
theorem Two.ptA(T:Two ss f g):PtA ss f g (qaD ss f g) (qar ss f g):=by
 have r:∀ z∈ss,(nbL ss f g z).length=1->z∉([]:LS)->ClD f g (wk (nbL ss f g) z):=fun z i h _=>(T.row i h).cl;obtain⟨G,H⟩:=T.parts r ss [] [] rfl (fun x h=>by cases h) (fun x h=>by cases h) (fun x h=>by cases h);obtain⟨p,_⟩:=T.rows ss [] (fun z i=>i) (fun x h=>by cases h);obtain⟨_,t,_⟩:=T.pts 1 ss [] fun z i=>i;have U:=cl_flat fun Yw d=>(p Yw d).1
 have j:∀ z∈ss,(nbL ss f g z).length=1->z∈(qaD ss f g).flatten:=fun z i h=>by
  rcases t z i h with k | ⟨Yw,h1,l⟩
  .cases k
  .show YH.mpr ⟨Yw,h1,l⟩
 have n:∀ z∈ss,(nbL ss f g z).length=2->z∉(qaD ss f g).flatten->ClD f g (wk (nbL ss f g) z):=fun z i h o=>(T.ring U j i o h).1.cl;obtain⟨s,v⟩:=T.parts n ss [] (qaD ss f g).flatten rfl (fun x h=>by cases h) (fun x h=>h) U;obtain⟨I,u,_⟩:=T.pts 2 ss (qaD ss f g).flatten fun z i=>i
 have ringW:∀ Yw∈qar ss f g,RgW ss f g Yw/\∃ z b c,Yw[0]?=some z/\nbL ss f g z=[b,c]/\Yw[1]?=some b/\Yw[Yw.length-1]?=some c:=fun Yw d=>by
  obtain⟨z,i,rfl,l,o⟩:=I Yw d;obtain⟨C,b,c,D,E,F⟩:=T.ring U j i o l;show⟨C,z,b,c,(T.go i).hd,D,E,F⟩
 show⟨fun Yw d=>⟨(p Yw d).1,(G Yw d).2⟩,fun Yw d=>⟨(ringW Yw d).1,fun x m=>(s Yw d).2 x m ((ringW Yw d).1.two x m),(ringW Yw d).2⟩,?_,fun x m h=>?_⟩
 .show yZ.mpr ⟨qcC (fun Yw d=>(p Yw d).1.nd) H,qcC (fun Yw d=>(ringW Yw d).1.nd) v,fun a A b hb e=>?_⟩;subst e;obtain⟨V,w,k⟩:=YH.mp hb;show(s V w).1 a k A
 .obtain⟨y,B⟩:=Y8 (Nat.pos_of_ne_zero h);rcases T.deg (T.mem.mp B) with k | k
  .show Yb _ (j x m k)
  .rcases u x m k with q | ⟨Yw,h1,l⟩
   .show Yb _ q
   .show yM _ (YH.mpr ⟨Yw,h1,l⟩)
theorem Two.total(T:Two ss f g)(e:DT ss tps)(pf:PF tps f)(j:PF tps g){R G:List (LS)}(h:PtA ss f g R G):(R.map fun Yw=>Yw.length-1).sum+(G.map List.length).sum=(unL tps f g).length:=by
 have d:=T.hand e pf j;rw[qeR (l:=R.flatten++G.flatten) T.nd h.nd (fun x c=>?_) (fun x c i=>Yp fun k=>i (h.all x c k)),yE,Xl,qbD _ (fun Yw=>Yw.length-1) (fun Yw a=>?_),qbD _ List.length (fun Yw a=>(h.ring Yw a).1.deg)] at d
 .omega
 .have:=(h.row Yw a).1.deg T;have:=(h.row Yw a).1.two;lk
 .rcases yH.mp c with k | k
  .obtain⟨Yw,h1,b⟩:=YH.mp k;show(h.row Yw h1).1.inn x b
  .obtain⟨Yw,h1,b⟩:=YH.mp k;show(h.ring Yw h1).1.inn x b
end
noncomputable def qds:V->Bool
 | .str x=>jF x
 | _=>false
noncomputable def qcl:V->Str
 | .str x=>x
 | _=>""
theorem zI{x:V}(h:qds x=true):x=.str (qcl x)/\jF (qcl x)=true/\(qcl x).length<=6:=by
 cases x with
 | str y =>
  show⟨rfl,h,?_⟩;have h':jF y=true:=h;unfold jF at h';split at h'
  .rename_i z;show z.2
  .cases h'
 | _=>cases h
inductive Th(p:Addr)(H:Hp):Nat->V->Prop
 | flat {n:Nat} {v:V} (f:zQ v=true) (l:∀ s,v=.str s->s.length<=100000):Th p H n v
 | lst {n:Nat} {a:Addr} {xs:List V} (e:H a=some (.lst xs)) (ne:a≠p) (h:∀ x∈xs,Th p H n x) (l:xs.length<=1000):Th p H (n+1) (.ref a)
 | tup {n:Nat} {a:Addr} {xs:List V} (e:H a=some (.tup xs)) (ne:a≠p) (h:∀ x∈xs,Th p H n x) (l:xs.length<=1000):Th p H (n+1) (.ref a)
 | dct {n:Nat} {a:Addr} {kvs:List (Key×V)} (e:H a=some (.dK kvs)) (ne:a≠p):Th p H n (.ref a)
theorem Th.mono:∀{n:Nat} {v:V},Th p H n v->Th p H (n+1) v
 | _,_,.flat f l=>.flat f l
 | _,_,.lst e ne h l=>.lst e ne (fun x a=>(h x a).mono) l
 | _,_,.tup e ne h l=>.tup e ne (fun x a=>(h x a).mono) l
 | _,_,.dct e ne=>.dct e ne
theorem Th.keep(k:∀ b o,b≠p->H b=some o->H' b=some o):∀{n:Nat} {v:V},Th p H n v->Th p H' n v
 | _,_,.flat f l=>.flat f l
 | _,_,.lst e ne h l=>.lst (k _ _ ne e) ne (fun x a=>(h x a).keep k) l
 | _,_,.tup e ne h l=>.tup (k _ _ ne e) ne (fun x a=>(h x a).keep k) l
 | _,_,.dct e ne=>.dct (k _ _ ne e) ne
theorem Th.same(h:Th p H n v)(s:L2.Same H H'):Th p H' n v:=h.keep fun b o _ e=>s b o e
noncomputable def isB:V->Bool
 | .bl _=>true
 | _=>false
theorem Th.ty(h:Th p H n v):∃ t∈["NoneType","bool","int","str","list","tuple","dict"],TyOf K H v (.type t)/\(qdv t "str"=true->∃ x,v=.str x/\x.length<=100000)/\(qdv t "str"=false->qds v=false) /\
  (qdv t "tuple"=true->∃ a xs,v=.ref a/\H a=some (.tup xs)/\xs.length<=1000/\∀ x∈xs,Th p H n x)/\(qdv t "tuple"=false->∀ a xs,v=.ref a->H a≠some (.tup xs))/\qdv t "bool"=isB v:=by
 have c:∀{P:Prop} {a b:String},qdv a b=false->qdv a b=true->P:=fun h1 d=>by rw[h1] at d;cases d
 have g:∀{P:Prop} {a b:String},qdv a b=true->qdv a b=false->P:=fun h1 d=>by rw[h1] at d;cases d
 cases h with
 | flat f l =>
  cases v with
  | non=>show⟨_,by simp,.non,c (by decide),fun _=>rfl,c (by decide),fun _ _ _ e=>by(cases e),rfl⟩
  | bl x=>show⟨_,by simp,.bl x,c (by decide),fun _=>rfl,c (by decide),fun _ _ _ e=>by(cases e),rfl⟩
  | int x=>show⟨_,by simp,.int x,c (by decide),fun _=>rfl,c (by decide),fun _ _ _ e=>by(cases e),rfl⟩
  | str x=>show⟨_,by simp,.str x,fun _=>⟨x,rfl,l x rfl⟩,g (by decide),c (by decide),fun _ _ _ e=>by(cases e),rfl⟩
  | _=>cases f
 | lst e ne h l=>show⟨_,by simp,.lst e,c (by decide),fun _=>rfl,c (by decide),fun _ _ _ z=>by(cases z;rw[e];intro y;cases y),rfl⟩
 | tup e ne h l=>show⟨_,by simp,.tup e,c (by decide),fun _=>rfl,fun _=>⟨_,_,rfl,e,l,fun x i=>(h x i).mono⟩,g (by decide),rfl⟩
 | dct e ne=>show⟨_,by simp,.dK e,c (by decide),fun _=>rfl,c (by decide),fun _ _ _ z=>by(cases z;rw[e];intro y;cases y),rfl⟩
inductive spNameG(vs:List V)(H:Hp)(Q:VK)(E:XK):Prop|mk (p:Addr) (n:Nat) (v:V) (_:vs=[v]) (_:Th p H n v) (_:∀ H',L2.Same H H'->Q (.bl (qds v)) H')
theorem ok_nameG(F:Fun K "is_name" "is_name" jU f fd)(T:Txt K mg cc cw):FnOk P w K mg base CX0 1 f fd ["thing"] spNameG:=by
 show F.ok K2 fun _ _ _ _ H vs Q E G h=>?_
 .obtain⟨p,n,v,rfl,hv,q⟩:=h;show⟨_,(qb (qG (PW.pt (zl (qO (qN (qj (zG (K:=K) rfl) rfl T.b_isinstance YC (qa (pv 0) (qa (jt (v:=.ty "str") rfl T.b_str boot_str rfl) qd))))) (jY (qO (qcN qes qes qe (qj (jw (K:=K) rfl) rfl T.b_len Yy (qa (pv 0) qd)) (qaI rfl T.g_LONGEST_NAME)))))) (qf (qt jr)) qv)
 (qf (qt (qj (qfp (K:=K) rfl rfl) rfl T.b_all boot_all (qa (j7 (sc:=qg jU) (XN:=["thing"]) ["sign"] 1 [] rfl rfl rfl (by room) rfl (by room)
  (qM (K:=K) rfl (pv 0)) (fun _ _ _ _=>(qu (i:=0) (show(["sign"]:LS).Nodup by room) rfl (yI rfl))) jc
  (fun _ _ _ _=>jv)
  (fun _ _ _ _=>(qcM qes qes qZ (pv 0) qZ))) qd))))),?_⟩
  obtain⟨t,u,ty,s,B,_,_,_⟩:=hv.ty (K:=K);apply qaB (.inl ty) rfl (jP K t u "str" (by simp)) ?_;apply qE (fun h=>?_) fun h=>?_
  .ext;have z:=q H (Sr H);rw[B (by simpa using h)] at z;show z
  .obtain⟨x,rfl,C⟩:=s (by simpa using h);apply qe0 (yi C (by decide)) ?_;ext;have e:=q;simp only[qds,jF] at e
   have a:¬ (1<=x.length/\x.length<=6)->∀ H',L2.Same H H'->Q (.bl false) H':=fun hc H' s=>by
    have z:=e H' s;rw[yB hc] at z;show z
   show qE (fun h1=>?_) fun h1=>?_
   .ext;show qE (fun g=>?_) fun g=>?_
    .ext;show a (fun h=>?_) H (Sr H);simp only[xX,Xr] at g;lk
    .ext
     have m:1<=x.length/\x.length<=6:=by
      have D:=yk h1;simp only[xX,Xr,Classical.not_not] at g;lk
     rw[yG m] at e;show qcU (fun i y H'=>H'=H/\y=((x.cps.toList.take i).map sg).map V.bl) ⟨rfl,by simp⟩ (fun i c y H' hc r=>?_) fun y H' r=>?_
     .obtain⟨rfl,rfl⟩:=r;apply qaC ?_;ext
      have hl:(List.map V.bl (List.map sg (List.take i x.cps.toList))).length<sizeLine:=by
       rw[ya,ya,yL];show qi (yi (XD _ _) (by simpa [Str.length] using(show x.length<=1000 by lk)))
      have d:∀ b,b=sg c->(List.map V.bl (List.map sg (List.take i x.cps.toList)))++[V.bl b]=List.map V.bl (List.map sg (List.take (i+1) x.cps.toList)):=by
       intro b hb;have A:x.cps.toList[i]?=some c:=by simpa using hc
       rw[hb,yR,A];simp
      show qE (fun j=>?_) fun j=>?_
      .ext;show⟨hl,rfl,d _ (by unfold sg;rw[yG j])⟩
      .show⟨hl,rfl,d _ (by unfold sg;rw[yB j])⟩
     .obtain⟨rfl,rfl⟩:=r;have u:x.cps.toList.take x.cps.size=x.cps.toList:=by rw[<- Yx,Yc]
      rw[u];show⟨?_,fun l hl=>?_⟩
      .rw [ya,ya];show yP (qi (by simpa [Str.length] using(show x.length<=1000 by lk)))
      .ext;show⟨l,x.cps.toList.map sg,rfl,SqL.of qc,?_⟩;have z:=e _ (qF (Sr H') (o:=.lst ((x.cps.toList.map sg).map V.bl)) hl);rw[kK];show z
   .ext;show a (fun h=>h1 (yD (by lk))) H (Sr H)
noncomputable def zU(ss:LS)(v:V):Bool:=if qds v=true then decide (qcl v∈ss) else false
inductive spPlaceG(vs:List V)(H:Hp)(Q:VK)(E:XK):Prop|mk (p:Addr) (n:Nat) (d:Addr) (ss:LS) (v:V) (_:vs=[.ref d,v]) (_:H d=some (.dK (qaJ ss 0))) (_:Th p H n v) (_:∀ H',L2.Same H H'->Q (.bl (zU ss v)) H')
theorem ok_placeG(F:Fun K "is_place" "is_place" zf f fd)(g:DefOk P w K mg base CX0 1 "is_name" ["thing"] spNameG):FnOk P w K mg base CX0 2 f fd ["numbers","thing"] spPlaceG:=by
 show F.ok KR fun _ _ _ _ H vs Q E b h=>?_
 .obtain⟨p,n,d,ss,v,rfl,i,hv,q⟩:=h;have j:=zT b;show⟨_,(qf (qt (zD (qo g (hmR b) qy (qa (pv 1) qd)) (zR (jo (qcx (K:=K) rfl j) (pv 1) (pv 0) (by with_unfolding_all rfl)))))),?_⟩;apply⟨p,n,v,rfl,hv,fun H1 c=>?_⟩;ext;have a:=q H1 c;unfold zU at a;show qE (fun hc=>?_) fun hc=>?_
  .ext;rw[yG hc] at a;obtain⟨e,_,_⟩:=zI hc;generalize qcl v=x at a e;subst e;show .inr (.inl ⟨d,_,rfl,DGet.k (k:=Sum.inr x) (c d _ i),?_⟩);rw[zY];show a
  .rw [yB hc] at a;show a
noncomputable def qdt(ss:LS)(y z:V):Bool:=zU ss y&&zU ss z&&!decide (qcl y=qcl z)
noncomputable def qcg(H:Hp)(ss:LS)(x:V):Option (Str×Str):=match x with
 | .ref a=>(match H a with
  | some (.tup [y,z])=>if qdt ss y z=true then some (qcl y,qcl z) else none
  | _=>none)
 | _=>none
theorem qdh{y z:V}(e:H a=some (.tup [y,z])):qcg H ss (.ref a)=if qdt ss y z=true then some (qcl y,qcl z) else none:=by
 unfold qcg;dsimp only;rw[e]
theorem zO{x:V}(h:∀ a xs,x=.ref a->H a=some (.tup xs)->xs.length≠2):qcg H ss x=none:=by
 unfold qcg
 cases x with
 | ref a =>
  dsimp only;split
  .rename_i y z e;show absurd rfl (h a _ rfl e)
  .rfl
 | _=>rfl
theorem tieV_keep{x:V}(h:Th p H n x)(k:∀ b o,b≠p->H b=some o->H' b=some o):qcg H' ss x=qcg H ss x:=by
 cases h with
 | flat f l=>cases x<;>first | rfl | cases f
 | lst e ne h l=>rw[zO (H:=H') (fun a xs z y=>by(cases z;rw[k _ _ ne e] at y;cases y)),zO (H:=H) fun a xs z y=>by(cases z;rw[e] at y;cases y)]
 | tup e ne h l=>unfold qcg;dsimp only;rw[k _ _ ne e,e]
 | dct e ne=>rw[zO (H:=H') (fun a xs z y=>by(cases z;rw[k _ _ ne e] at y;cases y)),zO (H:=H) fun a xs z y=>by(cases z;rw[e] at y;cases y)]
theorem tieV_same{x:V}(h:Th p H n x)(s:L2.Same H H'):qcg H' ss x=qcg H ss x:=tieV_keep h fun b o _ e=>s b o e
theorem zv(h:zU ss v=true):qds v=true/\qcl v∈ss:=by
 unfold zU at h;split at h
 .rename_i z;show⟨z,yk h⟩
 .cases h
inductive spTwoG(vs:List V)(H:Hp)(Q:VK)(E:XK):Prop|mk (p:Addr) (n:Nat) (d:Addr) (ss:LS) (v:V) (_:vs=[.ref d,v]) (_:H d=some (.dK (qaJ ss 0))) (_:Th p H n v) (_:∀ H',L2.Same H H'->Q (.bl (qcg H ss v).isSome) H')
theorem ok_twoG(F:Fun K "are_two_places" "are_two_places" qP f fd)(T:Txt K mg cc cw)(A:DefOk P w K mg base CX0 2 "is_place" ["numbers","thing"] spPlaceG):FnOk P w K mg base CX0 3 f fd ["numbers","thing"] spTwoG:=by
 show F.ok Kk fun _ _ _ _ H vs Q E x h=>?_
 .obtain⟨p,n,d,ss,v,rfl,D,hv,q⟩:=h;have g:=zT x;show⟨_,(qb (qG (PW.pt (zl (qO (qN (qj (zG (K:=K) rfl) rfl T.b_isinstance YC (qa (pv 1) (qa (jt (v:=.ty "tuple") rfl T.b_tuple kj rfl) qd))))) (jY (qk (zq (K:=K) rfl g) (qj (jw (K:=K) rfl) rfl T.b_len Yy (qa (pv 1) qd)) qe (qx _))))) (qf (qt jr)) qv)
 (qb (qp (i:=2) Kk.nd rfl (yI rfl) (zD (qo A (hmR x) qy (qa (pv 0) (qa (qq (qr (K:=K) rfl g) (pv 1) qe (fun _ _=>rfl)) qd))) (zR (qo A (hmR x) qy (qa (pv 0) (qa (qq (qr (K:=K) rfl g) (pv 1) qe (fun _ _=>rfl)) qd))))))
 (qf (qt (zD (pv 2) (zR (jo (zq (K:=K) rfl g) (qq (qr (K:=K) rfl g) (pv 1) qe (fun _ _=>rfl)) (qq (qr (K:=K) rfl g) (pv 1) qe (fun _ _=>rfl)) (qx _)))))))),?_⟩
  obtain⟨t,M,ty,_,_,h1,J,_⟩:=hv.ty (K:=K);apply qaB (.inl ty) rfl (jP K t M "tuple" (by simp)) ?_;apply qE (fun h=>?_) fun h=>?_
  .ext;have z:=q H (Sr H);rw[zO (fun a xs e y=>absurd y (J (by simpa using h) a xs e))] at z;show z
  .obtain⟨a,xs,rfl,b,_,u⟩:=h1 (by simpa using h);apply qe1 b ?_;apply .inl ⟨rfl,rfl,?_⟩;apply qE (fun h=>?_) fun h=>?_
   .ext;have z:=q H (Sr H)
    rw[zO (fun W U e y=>by
     cases e;rw[b] at y;cases y;intro I;rw[I] at h;simp[eqV] at h)] at z
    show z
   .have hl:xs.length=2:=by
     simp only[Xi,eqV,xX,Bool.not_eq_false'] at h;have h':((xs.length:Int)==2)=true:=by simpa using h
     have:=eq_of_beq h';lk
    match xs,hl,b,u with
    | [y,z],_,b,u =>
     have N:=u y (by simp);have O:=u z (by simp);rw[qdh b] at q;apply .inl (zo b rfl ?_);apply⟨p,n,d,ss,y,rfl,D,N,fun H1 c=>?_⟩;ext
     have l:∀ H2,L2.Same H H2->¬ (zU ss y=true/\zU ss z=true)->Q (.bl false) H2:=fun H2 j L=>by
      have:=q H2 j;rw[yB (fun e=>L (by unfold qdt at e;simp only[yX] at e;show⟨e.1.1,e.1.2⟩))] at this;show this
     show qE (fun r=>?_) fun r=>?_
     .ext;show .inl (zo (c _ _ b) rfl ?_);apply⟨p,n,d,ss,z,rfl,c _ _ D,O.same c,fun H2 j=>?_⟩;apply qE (fun s=>?_) fun s=>?_
      .ext;show .inl (zo (j _ _ (c _ _ b)) rfl ?_);apply .inl (zo (j _ _ (c _ _ b)) rfl ?_);obtain⟨R,_⟩:=zv r;obtain⟨S,_⟩:=zv s;obtain⟨B,_,_⟩:=zI R;obtain⟨C,_,_⟩:=zI S;have m:=q H2 (c.trans j);unfold qdt at m;rw[r,s] at m;generalize qcl y=o at B m;generalize qcl z=sz at C m;subst B C;show .inl ⟨rfl,rfl,?_⟩
       have e:(if true=true then !eqV (V.str o) (V.str sz) else eqV (V.str o) (V.str sz))=(if (true&&true&&!decide (o=sz))=true then some (o,sz) else none).isSome:=by
        by_cases G:o=sz
        .subst G;simp[eqV]
        .simp [eqV,G]
       rw[e];show m
      .show l H2 (c.trans j) fun e=>s e.2
     .ext;show yq ?_;show l H1 c fun e=>r e.1
theorem qch{x:V}{t:Str×Str}(h:qcg H ss x=some t):∃ a,x=.ref a/\H a=some (.tup [.str t.1,.str t.2])/\jF t.1=true/\jF t.2=true/\t.1.length<=6/\t.2.length<=6/\t.1∈ss/\t.2∈ss/\t.1≠t.2:=by
 unfold qcg at h;split at h
 .rename_i a
  split at h
  .rename_i y z e
   split at h
   .rename_i hp
    cases h;unfold qdt at hp;simp only[yX] at hp;obtain⟨⟨h1,g⟩,i⟩:=hp;obtain⟨o,m⟩:=zv h1;obtain⟨p,n⟩:=zv g;obtain⟨b,d,j⟩:=zI o;obtain⟨c,f,l⟩:=zI p;show⟨a,rfl,?_,d,f,j,l,m,n,?_⟩
    .show H a=some (.tup [.str (qcl y),.str (qcl z)]);rw[<- b,<- c];show e
    .simpa using i
   .cases h
  .cases h
 .cases h
noncomputable def qa7(H:Hp)(ss:LS)(tps:LP)(x:V):Option (Str×Str):=match qcg H ss x with
 | some ab=>if ab∈tps\/(ab.2,ab.1)∈tps then some ab else none
 | none=>none
theorem qci{x:V}(h:Th p H n x)(s:L2.Same H H'):qa7 H' ss tps x=qa7 H ss tps x:=by unfold qa7;rw[tieV_same h s]
theorem tieT_some{x:V}(h:qa7 H ss tps x=some ab):qcg H ss x=some ab/\(ab∈tps\/(ab.2,ab.1)∈tps):=by
 unfold qa7 at h
 cases e:qcg H ss x with
 | none=>rw[e] at h;cases h
 | some q =>
  rw[e] at h;dsimp only at h;split at h
  .cases h;show⟨rfl,by assumption⟩
  .cases h
noncomputable def apL(H:Hp)(ss:LS)(tps:LP):LS->List V->Bool
 | _,[]=>true
 | seen,x::r=>match qa7 H ss tps x with
  | none=>false
  | some ab=>if ab.1∈seen\/ab.2∈seen then false else apL H ss tps (seen++[ab.1,ab.2]) r
noncomputable def apV(H:Hp)(ss:LS)(tps:LP)(v:V):Bool:=match v with
 | .ref a=>(match H a with
  | some (.lst xs)=>apL H ss tps [] xs
  | _=>false)
 | _=>false
theorem qa4(e:H a=some (.lst xs)):apV H ss tps (.ref a)=apL H ss tps [] xs:=by
 unfold apV;dsimp only;rw[e]
theorem qa5(h:∀ a xs,v=.ref a->H a≠some (.lst xs)):apV H ss tps v=false:=by
 unfold apV;split
 .split
  .rename_i a _ xs e;show absurd e (h a xs rfl)
  .rfl
 .rfl
theorem qdi(s:L2.Same H H'):∀{xs:List V} {seen:LS},(∀ y∈xs,∃ n,Th p H n y)->apL H' ss tps seen xs=apL H ss tps seen xs
 | [],_,_=>rfl
 | x::r,seen,h=>by
  show(match qa7 H' ss tps x with | none=>false | some ab=>if ab.1∈seen\/ab.2∈seen then false else apL H' ss tps (seen++[ab.1,ab.2]) r)=(match qa7 H ss tps x with | none=>false | some ab=>if ab.1∈seen\/ab.2∈seen then false else apL H ss tps (seen++[ab.1,ab.2]) r);rw[qci (h x yy).choose_spec s]
  cases qa7 H ss tps x with
  | none=>rfl
  | some ab=>dsimp only;rw[qdi s fun y a=>h y (yu _ a)]
theorem apV_same(h:Th p H n v)(s:L2.Same H H'):apV H' ss tps v=apV H ss tps v:=by
 cases h with
 | flat f l =>
  have d:∀{G:Hp} (a:Addr) (xs:List V),v=.ref a->G a≠some (.lst xs):=fun a xs e=>by rw[e] at f;cases f
  rw[qa5 d,qa5 d]
 | lst e ne h l=>rw[qa4 e,qa4 (s _ _ e),qdi s fun y g=>⟨_,h y g⟩]
 | tup e ne h l=>rw[qa5 (fun a xs c b=>by cases c;rw[s _ _ e] at b;cases b),qa5 (fun a xs c b=>by cases c;rw[e] at b;cases b)]
 | dct e ne=>rw[qa5 (fun a xs c b=>by cases c;rw[s _ _ e] at b;cases b),qa5 (fun a xs c b=>by cases c;rw[e] at b;cases b)]
inductive spHtG(cw:Addr)(vs:List V)(H:Hp)(Q:VK)(E:XK):Prop|mk (p x:Addr) (k:Nat) (ss:LS) (ns:LN) (tps:LP) (v:V) (_:vs=[.ref x,v]) (_:WebAt cw H x ss ns) (_:Adj ss ns tps) (_:Th p H (k+1) v) (_:∀ H',L2.Same H H'->Q (.bl (qa7 H ss tps v).isSome) H')
inductive spApG(cw:Addr)(vs:List V)(H:Hp)(Q:VK)(E:XK):Prop|mk (p x:Addr) (ss:LS) (ns:LN) (tps:LP) (v:V) (_:vs=[.ref x,v]) (_:WebAt cw H x ss ns) (_:Adj ss ns tps) (_:Th p H 3 v) (_:∀ H',L2.Same H H'->Q (.bl (apV H ss tps v)) H')
theorem ok_htG(F:Fun K "has_tie" "Web.has_tie" jz f fd)(T:Txt K mg cc cw)(A:DefOk P w K mg base CX0 3 "are_two_places" ["numbers","thing"] spTwoG)(y:MethOk P w K mg base CX0 6 cw "tied" ["self","one","other"] (spTied cw)):FnOk P w K mg base CX0 7 f fd ["self","thing"] (spHtG cw):=by
 show F.ok KH fun _ _ _ _ H vs Q E g h=>?_
 .obtain⟨p,x,k,ss,ns,tps,v,rfl,s,C,hv,q⟩:=h;have t:=zT g;obtain⟨u,n,ol,U,hb,d,I,G,hw⟩:=id s;show⟨_,(qf (qt (zD (qo A (hmR g) qy (qa (zF (K:=K) rfl (pv 0) rfl) (qa (pv 1) qd))) (zR (qX y (hmR g) (pv 0) (qa (qq (qr (K:=K) rfl t) (pv 1) qe (fun _ _=>rfl)) (qa (qq (qr (K:=K) rfl t) (pv 1) qe (fun _ _=>rfl)) qd))))))),?_⟩;apply .inl ⟨x,cw,u,_,.ref n,rfl,hb,T.wcl,T.wn,zh,?_⟩;apply⟨p,k+1,n,ss,v,rfl,d,hv,fun H1 c=>?_⟩
  cases i:qcg H ss v with
  | none =>
   have e:(qa7 H ss tps v).isSome=false:=by unfold qa7;rw[i];rfl
   have:=q H1 c;rw[e] at this;show⟨false,rfl,qE (fun h=>by cases h) fun _=>?_⟩;show this
  | some ab =>
   obtain⟨a,rfl,B,R,S,N,O,J,L,D⟩:=qch i;show⟨true,rfl,qaC ?_⟩;have b:=c _ _ B;apply⟨x,u,_,rfl,c _ _ hb,qan (by room),?_⟩;apply .inl (zo b (v:=.str ab.1) (qw (j:=0) rfl) ?_);apply .inl (zo b (v:=.str ab.2) (qw (j:=1) rfl) ?_);ext;obtain⟨m,r⟩:=yf J;obtain⟨l,o⟩:=yf L;show⟨x,ss,ns,ab.1,ab.2,m,l,rfl,s.same c,r,o,fun H2 M=>?_⟩
   have e:(qa7 H ss tps (.ref a)).isSome=(ns.getD m 0).testBit l:=by
    unfold qa7;rw[i];dsimp only;rw[xD,C m l ab.1 ab.2 r o];split
    .rename_i h;show⟨fun _=>h,fun _=>rfl⟩
    .rename_i h;show⟨(fun z=>by cases z),fun z=>absurd z h⟩
   rw[<- e];show q H2 (c.trans M)
theorem ok_apG(F:Fun K "are_pairs" "are_pairs" jV f fd)(T:Txt K mg cc cw)(KB:MethOk P w K mg base CX0 7 cw "has_tie" ["self","thing"] (spHtG cw)):FnOk P w K mg base CX0 8 f fd ["web","thing"] (spApG cw):=by
 show F.ok Kl fun _ _ _ _ H vs Q E hr h=>?_
 .obtain⟨p,x,ss,ns,tps,v,rfl,hW,hA,hv,q⟩:=h;have B:=zT hr;obtain⟨wx,dd,ol,nn,hb,ai,ak,aj,hw⟩:=id hW;show⟨_,(qb (qG (qO (qN (qj (zG (K:=K) rfl) rfl T.b_isinstance YC (qa (pv 1) (qa (jt (v:=.ty "list") rfl T.b_list xv rfl) qd))))) (qf (qt jr)) qv)
 (qb (qp (i:=2) Kl.nd rfl (yI rfl) ju)
 (qb (qU yW rfl (qM (K:=K) rfl (pv 1)) (qu (i:=3) Kl.nd rfl (yI rfl))
 (qb (qG (PW.pt (zl (qO (qN (qX KB (hmR hr) (pv 0) (qa (pv 3) qd)))) (zl (qk (qcx (K:=K) rfl B) (qq (qr (K:=K) rfl B) (pv 3) qe (fun _ _=>rfl)) (pv 2) (by with_unfolding_all rfl)) (jY (qk (qcx (K:=K) rfl B) (qq (qr (K:=K) rfl B) (pv 3) qe (fun _ _=>rfl)) (pv 2) (by with_unfolding_all rfl)))))) (qf (qt jr)) qv)
 (qb (qT jr (jp (pv 2) (qq (qr (K:=K) rfl B) (pv 3) qe (fun _ _=>rfl)) (jq B)))
 (qf (qT jr (jp (pv 2) (qq (qr (K:=K) rfl B) (pv 3) qe (fun _ _=>rfl)) (jq B)))))))
 (qf (qt jr))))),?_⟩
  ext;by_cases n:∃ a xs,v=.ref a/\H a=some (.lst xs)
  .obtain⟨a,xs,rfl,C⟩:=n
   obtain⟨ag,af,al⟩:a≠p/\(∀ y∈xs,Th p H 2 y)/\xs.length<=1000:=by
    cases hv with
    | lst e ne h l=>rw[C] at e;cases e;show⟨ne,h,l⟩
    | tup e ne h l=>rw[C] at e;cases e
    | dct e ne=>rw[C] at e;cases e
    | flat f l=>cases f
   rw[qa4 C] at q;show qaB (.inl (.lst C)) rfl (jP K "list" (by simp) "list" (by simp)) ?_;apply yq ?_;ext;intro d M;have s1:=qF (Sr H) (o:=.dK []) M;have ed:upd H d (.dK []) d=some (.dK (j8 [])):=qc;generalize upd H d (.dK [])=H1 at s1 ed;apply .inl ⟨⟨_,.of (s1 _ _ C)⟩,qR (xs:=xs) (fun i X J=>L2.Same H J/\∃ y3 seen,X=[some (.ref x),some (.ref a),some (.ref d),y3]/\J d=some (.dK (j8 seen))/\seen.length=2*i/\apL H ss tps [] xs=apL H ss tps seen (xs.drop i)) ⟨s1,_,[],rfl,ed,rfl,rfl⟩ (fun i X J _ S=>.of (S.1 _ _ C)) (fun i y X J hy S=>?_) fun X J S=>?_⟩
   .obtain⟨G,y3,seen,rfl,A,ae,g⟩:=S;have ac:i<xs.length:=(yc.mp hy).1
    have aa:xs.drop i=y::xs.drop (i+1):=by
     rw[List.drop_eq_getElem_cons ac];have:=(yc.mp hy).2;rw[this]
    rw[aa] at g;have W:=af y (ye hy)
    have s:∀ m,L2.Same H m->apL H ss tps [] xs=false->Q (.bl false) m:=fun m I e=>by
     have:=q m I
     rwa[e] at this
    apply⟨x,wx,_,rfl,G _ _ hb,qan (by room),?_⟩;apply⟨p,x,1,ss,ns,tps,y,rfl,hW.same G,hA,W.same G,fun m I=>?_⟩;rw[qci W G];have r:=G.trans I
    cases U:qa7 H ss tps y with
    | none =>
     apply qaC ?_;apply s m r ?_;rw[g];show(match qa7 H ss tps y with | none=>false | some ab=>_)=_;rw[U]
    | some ab =>
     obtain⟨t1,t2⟩:=tieT_some U;obtain⟨b,rfl,Y,n1,n2,l1,l2,m1,m2,ad⟩:=qch t1;have u:=r _ _ Y
     have c:apL H ss tps [] xs=if ab.1∈seen\/ab.2∈seen then false else apL H ss tps (seen++[ab.1,ab.2]) (xs.drop (i+1)):=by
      rw[g];show(match qa7 H ss tps (.ref b) with | none=>false | some ab=>_)=_;rw[U]
     apply yq ?_;apply .inl (zo u (v:=.str ab.1) (qw (j:=0) rfl) ?_);apply .inr (.inl ⟨d,_,rfl,DGet.k (k:=Sum.inr ab.1) (I _ _ A),?_⟩);rw[yB (by decide),jA];apply qE (fun D=>?_) fun D=>?_
     .ext;show qaC ?_;apply s m r (by rw[c,yG (.inl (yk D))])
     .have N:ab.1∉seen:=fun e=>D (yD e);apply .inl (zo u (v:=.str ab.2) (qw (j:=1) rfl) ?_);apply .inr (.inl ⟨d,_,rfl,DGet.k (k:=Sum.inr ab.2) (I _ _ A),?_⟩);rw[yB (by decide),jA];apply qE (fun D=>?_) fun D=>?_
      .ext;show s m r (by rw[c,yG (.inr (yk D))])
      .have O:ab.2∉seen:=fun e=>D (yD e);rw[yB (fun h=>h.elim N O)] at c;apply .inl (zo u (v:=.str ab.1) (qw (j:=0) rfl) ?_);apply .inr ⟨d,_,rfl,DPut.k (k:=Sum.inr ab.1) (I _ _ A) (by unfold j8;rw[ya,Ys];lk),?_⟩;rw[zu N];have s3:=qdW r (o:=.dK (j8 (seen++[ab.1]))) M;have e3:upd m d (.dK (j8 (seen++[ab.1]))) d=some (.dK (j8 (seen++[ab.1]))):=qc;have Z:b≠d:=fun z=>by rw[z] at Y;rw[Y] at M;cases M
       have L:upd m d (.dK (j8 (seen++[ab.1]))) b=some (.tup [.str ab.1,.str ab.2]):=by rw[qh Z];show u
       generalize upd m d (.dK (j8 (seen++[ab.1])))=J3 at s3 e3 L;apply .inl (zo L (v:=.str ab.2) (qw (j:=1) rfl) ?_);apply .inr ⟨d,_,rfl,DPut.k (k:=Sum.inr ab.2) e3 (by unfold j8;rw[ya,yz,Ys];simp only[yC,Yn];lk),?_⟩;rw[zu (fun z=>by rcases yH.mp z with z | z;show O z;show ad (yx.mp z).symm)];show⟨qdW s3 M,_,seen++[ab.1]++[ab.2],rfl,qc,by simp only[yz,yC,Yn];lk,by rw[c,YE];rfl⟩
   .obtain⟨G,y3,seen,rfl,A,ae,g⟩:=S;rw[List.drop_length] at g;ext;have:=q J G
    rwa[g] at this
  .have R:∀(a:Addr) (xs:List V),v=.ref a->H a≠some (.lst xs):=fun a xs e e'=>n ⟨a,xs,e,e'⟩;rw[qa5 R] at q
   obtain⟨t,U,he,ty⟩:∃ t:String,t∈["NoneType","bool","int","str","list","tuple","dict"]/\qdv t "list"=false/\TyOf K H v (.type t):=by
    cases hv with
    | flat f l =>
     cases v with
     | non=>show⟨_,by simp,rfl,.non⟩
     | bl b=>show⟨"bool",by simp,rfl,.bl b⟩
     | int i=>show⟨"int",by simp,rfl,.int i⟩
     | str z=>show⟨"str",by simp,rfl,.str z⟩
     | _=>cases f
    | lst e ne h l=>show absurd e (R _ _ rfl)
    | tup e ne h l=>show⟨"tuple",by simp,rfl,.tup e⟩
    | dct e ne=>show⟨"dict",by simp,rfl,.dK e⟩
   show qaB (.inl ty) rfl (jP K t U "list" (by simp)) ?_;rw[he];apply qaC ?_;apply q H (Sr H)
def BdA(p cw:Addr)(H:Hp)(x:Addr)(ss:LS)(ns:LN)(tps:LP)(v:V):Prop:=WebAt cw H x ss ns/\Adj ss ns tps/\Th p H 3 v/\apV H ss tps v=false
inductive spPnB(cc:Nat->Addr)(cw:Addr)(vs:List V)(H:Hp)(u2_:VK)(E:XK):Prop|mk (p x:Addr) (ss:LS) (ns:LN) (tps:LP) (v:V) (_:vs=[.ref x,v]) (_:BdA p cw H x ss ns tps v) (_:Rz cc H E (0,v))
theorem BdA.same(h:BdA p cw H x ss ns tps v)(s:L2.Same H H'):BdA p cw H' x ss ns tps v:=⟨h.1.same s,h.2.1,h.2.2.1.same s,(apV_same h.2.2.1 s).trans h.2.2.2⟩
theorem ok_pnB(F:Fun K "partners_in" "partners_in" jB f fd)(T:Txt K mg cc cw)(m:XMakeOk P w K mg base 2 (cc 0) "NoPairs" ["self","found"] (spX (cc 0) (qe3 0)))(d:DefOk P w K mg base CX0 8 "are_pairs" ["web","thing"] (spApG cw)):FnOk P w K mg base (CX1 P w) 9 f fd ["web","pairs"] (spPnB cc cw):=by
 show F.ok1 Kh (fun vs H Q E h=>?_) fun _ _ _ _ H vs Q E c h=>?_
 .cases h;subst_vars;rfl
 .obtain⟨p,x,ss,ns,tps,v,rfl,⟨j,e,hv,b⟩,g⟩:=h;have a:=zT c;show⟨_,(qb (qG (qO (qN (qo d (hmR c) qy (qa (pv 0) (qa (pv 1) qd))))) (qf (k_raise (K:=K) rfl qb5 (pe_xm m (hmR c) (qa (pv 1) qd)))) qv)
 (qb (qp (i:=2) Kh.nd rfl (yI rfl) ju)
 (qb (qU Xz rfl (qM (K:=K) rfl (pv 1)) (qu (i:=3) Kh.nd rfl (yI rfl))
 (qb (qT (qq (qr (K:=K) rfl a) (pv 3) qe (fun _ _=>rfl)) (jp (pv 2) (qq (qr (K:=K) rfl a) (pv 3) qe (fun _ _=>rfl)) (jq a)))
 (qf (qT (qq (qr (K:=K) rfl a) (pv 3) qe (fun _ _=>rfl)) (jp (pv 2) (qq (qr (K:=K) rfl a) (pv 3) qe (fun _ _=>rfl)) (jq a))))))
 (qf (qt (pv 2)))))),?_⟩
  apply⟨p,x,ss,ns,tps,v,rfl,j,e,hv,fun H1 l=>?_⟩;rw[b];apply qaC ?_;apply raise_done (T.xat 0 (by decide)) (g.later l)
def qfy(cc:Nat->Addr)(cw:Addr):Sp:=fun vs H Q E=>spPn cw vs H Q E\/spPnB cc cw vs H Q E
inductive spBtB(cc:Nat->Addr)(cw:Addr)(vs:List V)(H:Hp)(u2_:VK)(E:XK):Prop|mk (p x:Addr) (ss:LS) (ns:LN) (tps:LP) (v u:V) (_:vs=[.ref x,v,u]) (_:((BdA p cw H x ss ns tps v/\Rz cc H E (0,v))\/((∃(l:Addr) (us:LI) (qs:LP),v=.ref l/\PL H l us qs/\PGo ss tps qs)/\BdA p cw H x ss ns tps u/\Rz cc H E (0,u))))
theorem ok_btB{f:Addr}(F:Fun K "between" "between" jl f fd)(T:Txt K mg cc cw)(e:fd.code=.ref c)(B:W.CodeHd base c tb)(z:base.BuiltinsAt mg tb)(y:DefOk P w K mg base CX0 7 "near_between" ["web","ones","others"] (spNb cw))(n:DefOk P w K mg base (CX1 P w) 9 "partners_in" ["web","pairs"] (qfy cc cw))(q:DefOk P w K mg base CX0 1 "walked" ["near","start"] spWk)(t:MethOk P w K mg base CX0 1 cw "places" ["self"] (spPls cw))(r:MethOk P w K mg base CX0 4 cw "number_of" ["self","place"] (spNum cw)):FnOk P w K mg base (CX1 P w) 10 f fd ["web","one","other"] (spBtB cc cw):=by
 show F.okC1 e Ka (fun vs H Q E h=>?_) (fun A m s H vs Q E a h=>?_)
 .cases h;subst_vars;rfl
 .obtain⟨p,x,ss,ns,tps,v,u,rfl,h⟩:=h;have b:(A.deeper (envOfC "between" (qg jl) s.heap.objs.size f (.ref c))).units+100<cLine:=by have:=a.un;lk
  have j:Room (4+3) (A.deeper (envOfC "between" (qg jl) s.heap.objs.size f (.ref c))):=a.mono (by decide);show⟨_,(qb (qp (i:=3) Ka.nd rfl (yI rfl) (qo y (hmR a) qy (qa (pv 0) (qa (qcu n (hmR a) qb5 (qa (pv 0) (qa (pv 1) qd))) (qa (qcu n (hmR a) qb5 (qa (pv 0) (qa (pv 2) qd))) qd)))))
 (qb (qp (i:=4) Ka.nd rfl (yI rfl) (qK qd))
 (qb (qp (i:=5) Ka.nd rfl (yI rfl) ju)
 (qb (qU Xz rfl (qeI (K:=K) rfl (qV (qa (qV (qa qe (qa qZ qd))) (qa (qV (qa qe (qa qZ qd))) qd)))) (qa9 rfl (qQ (qu (i:=6) Ka.nd rfl (yI rfl)) (qQ (qu (i:=7) Ka.nd rfl (yI rfl)) qaw)))
 (qf (qU Xz rfl (qM (K:=K) rfl (qaX t (hmR a) (pv 0))) (qu (i:=8) Ka.nd rfl (yI rfl))
 (qf (qG (PW.pt (zC (qk (zy (K:=K) rfl b) (qj (jw (K:=K) rfl) rfl T.b_len Yy (qa (qq (qr (K:=K) rfl b) (pv 3) (pv 8) (fun _ _=>rfl)) qd)) (pv 6) (qx _)) (zj (qk (jH (K:=K) rfl b) (pv 8) (pv 5) (by with_unfolding_all rfl))))) (qb (qp (i:=9) Ka.nd rfl (yI rfl) (qo q (hmR a) qy (qa (pv 3) (qa (pv 8) qd))))
 (qb (q9 (qb2 (K:=K) rfl yO Ye Yg qL (pv 4) (qa (qV (qa (pv 7) (qa (pv 9) qd))) qd)))
 (qf (qU Xz rfl (qM (K:=K) rfl (pv 9)) (qu (i:=10) Ka.nd rfl (yI rfl))
 (qf (qT jr (jp (pv 5) (pv 10) (jq b)))))))) qv)))))
 (qf (qt (qc3 (K:=K) (iw:=0) rfl T.b_sorted rfl B z j (pv 4) rfl rfl (qeH rfl rfl rfl rfl rfl (by room) (by room)) (by decide) rfl rfl rfl (fun _ _ _ _ _=>rfl) (fun _ _ _ _ _ g=>have a:=g.deeper _;have b:=qeJ a;(qX r (hmR a) (pv 1) (qa (qq (qr (K:=K) rfl b) (qq (qr (K:=K) rfl b) (pv 0) qe (fun _ _=>rfl)) qe (fun _ _=>rfl)) qd)))))))))),?_⟩
  ext;rcases h with⟨hb,d⟩ | ⟨⟨l,us,qs,rfl,D,C⟩,hb,d⟩
  .show .inr ⟨p,x,ss,ns,tps,v,rfl,hb,d⟩
  .show .inl ⟨x,l,ss,ns,us,tps,qs,rfl,hb.1,hb.2.1,D,C,fun G H1 o _ _=>?_⟩;apply .inr ⟨p,x,ss,ns,tps,u,rfl,hb.same o,d.later o⟩
theorem K7:FnScope ["_law_found","_law_thing","_law_same"] ["_law_found","_law_thing"] (qg qas):=fS
theorem KN:FnScope ["_law_web_here","_law_one","_law_other","_law_due","e"] ["_law_web_here","_law_one","_law_other","_law_due"] (qg zw):=fS
noncomputable def qeS(p:Addr)(H:Hp):Hp:=fun b=>if b=p then none else H b
theorem qbE{b:Addr}(h:b≠p):qeS p H b=H b:=yB h
theorem outH_sub(p:Addr)(H:Hp):L2.Same (qeS p H) H:=fun b o e=>by
 unfold qeS at e;split at e
 .cases e
 .show e
theorem outH_but(b:But p H H'):L2.Same (qeS p H) (qeS p H'):=fun c o e=>by
 by_cases h:c=p
 .unfold qeS at e;rw[yG h] at e;cases e
 .rw [qbE h] at e ⊢;show b c o h e
def Sn(p:Addr)(H:Hp)(v:V)(n m:Nat):Prop:=∃ d,Dat (qeS p H) v d/\Shw d n m
theorem Sn.but(h:Sn p H v n m)(b:But p H H'):Sn p H' v n m:=h.elim fun d h=>⟨d,h.1.same (outH_but b),h.2⟩
theorem qbm{x:Str}(h:jF x=true):∀ c∈x.cps.toList,c<16 ^ 8:=by
 intro c hc;unfold jF at h;split at h
 .have a:=YD.mp h c hc;by_cases b:c<16 ^ 8
  .show b
  .exfalso;unfold sg at a;split at a
   .have d:("z":Str).cps.toList=[122]:=rfl;rw[d] at a;have:([122]:LN) < [c]:=List.Lex.rel (by lk);simp[this] at a
   .cases a
 .cases h
theorem qbF:∀{xs:List V},(∀ y∈xs,Sn p J y n m)->∃ a,DatS (qeS p J) xs a/\ShwS a ((n+1)*xs.length) m
 | [],_=>⟨[],.nil,ShwS.nil⟩
 | x::xs,h=>by
  obtain⟨d,b,c⟩:=h x yy;obtain⟨a,e,f⟩:=qbF fun y g=>h y (yu _ g);show⟨d::a,.cons b e,(ShwS.cons c f).mono ?_ (yh _)⟩;rw[yC,Nat.mul_succ];lk
theorem Sn.lst(e:J a=some (.lst xs))(b:a≠p)(h:∀ y∈xs,Sn p J y n m):Sn p J (.ref a) ((n+1)*xs.length) (m+1):=by
 obtain⟨f,c,d⟩:=qbF h;show⟨_,.lst (by rw[qbE b];show e) c,d.list⟩
theorem Sn.tup(e:J a=some (.tup xs))(b:a≠p)(h:∀ y∈xs,Sn p J y n m):Sn p J (.ref a) ((n+1)*xs.length) (m+1):=by
 obtain⟨f,c,d⟩:=qbF h;show⟨_,.tup (by rw[qbE b];show e) c,d.tuple⟩
theorem Sn.mono(h:Sn p J v n m)(b:n<=n')(a:m<=m'):Sn p J v n' m':=h.elim fun d h=>⟨d,h.1,h.2.mono b a⟩
def Ok(p:Addr)(J:Hp)(k n m:Nat)(v:V):Prop:=Th p J k v/\Sn p J v n m
theorem Ok.but{k:Nat}(h:Ok p J k n m v)(b:But p J J'):Ok p J' k n m v:=⟨h.1.keep b,h.2.but b⟩
theorem Ok.same{k:Nat}(h:Ok p J k n m v)(s:L2.Same J J'):Ok p J' k n m v:=h.but fun c o _ e=>s c o e
theorem Ok.mono{k:Nat}(h:Ok p J k n m v)(b:n<=n')(a:m<=m'):Ok p J k n' m' v:=⟨h.1,h.2.mono b a⟩
theorem Ok.deep{k:Nat}(h:Ok p J k n m v):Ok p J (k+1) n m v:=⟨h.1.mono,h.2⟩
theorem Ok.name{k:Nat}(h:jF s=true):Ok p J k 6 m (.str s):=by
 have:=qcb h;show⟨.flat rfl (fun u e=>by cases e;lk),_,.str _,(Shw.str (qbm h)).mono this (yh _)⟩
theorem Ok.non{k:Nat}:Ok p J k n m .non:=⟨.flat rfl (fun u e=>by cases e),_,.non,Shw.non.mono (yU _) (yh _)⟩
theorem Ok.int{k:Nat}{i:Int}(h1:-999999999999<=i)(a:i<=999999999999):Ok p J k n m (.int i):=⟨.flat rfl (fun u e=>by cases e),_,.int _,(Shw.int h1 a).mono (yU _) (yh _)⟩
theorem Ok.str{k:Nat}(h:∀ c∈s.cps.toList,c<16 ^ 8)(hl:s.length<=n)(a:s.length<=1000):Ok p J k n m (.str s):=⟨.flat rfl (fun u e=>by cases e;lk),_,.str _,(Shw.str h).mono hl (yh _)⟩
theorem Ok.lst{k:Nat}(d:J a=some (.lst xs))(b:a≠p)(hl:xs.length<=1000)(h:∀ y∈xs,Ok p J k n m y):Ok p J (k+1) ((n+1)*xs.length) (m+1) (.ref a):=⟨.lst d b (fun y c=>(h y c).1) hl,.lst d b fun y c=>(h y c).2⟩
theorem Ok.tup{k:Nat}(d:J a=some (.tup xs))(b:a≠p)(hl:xs.length<=1000)(h:∀ y∈xs,Ok p J k n m y):Ok p J (k+1) ((n+1)*xs.length) (m+1) (.ref a):=⟨.tup d b (fun y c=>(h y c).1) hl,.tup d b fun y c=>(h y c).2⟩
theorem Ok.dnil{k:Nat}(c:J a=some (.dK []))(b:a≠p):Ok p J k n (m+1) (.ref a):=⟨.dct c b,_,.dnil (by rw[qbE b];show c),(Shw.dnil (m:=m)).mono (yU _) (yh _)⟩
theorem qgb{P:V->Prop}{a:V}(h1:P a):∀ y∈[a],P y:=fun y b=>by rw[yx.mp b];show h1
theorem qgc{P:V->Prop}{a b:V}(h1:P a)(c:P b):∀ y∈[a,b],P y:=fun y d=>by rcases yA.mp d with rfl | h;show h1;show qgb c y h
theorem qcD{d:PyData}(h:Dat H v d):∀ d',Dat H v d'->d'=d:=
 Dat.rec (H:=H) (motive_1:=fun v d _=>∀ d',Dat H v d'->d'=d) (motive_2:=fun vs f _=>∀ c,DatS H vs c->c=f)
  (fun d' g=>by cases g;rfl) (fun b d' g=>by cases g;rfl) (fun i d' g=>by cases g;rfl) (fun x d' g=>by cases g;rfl)
  (fun{a xs f} e _ j d' g=>by
   cases g with
   | lst e' g'=>rw[e] at e';cases e';rw[j _ g']
   | tup e' g'=>rw[e] at e';cases e'
   | dnil e'=>rw[e] at e';cases e')
  (fun{a xs f} e _ j d' g=>by
   cases g with
   | lst e' g'=>rw[e] at e';cases e'
   | tup e' g'=>rw[e] at e';cases e';rw[j _ g']
   | dnil e'=>rw[e] at e';cases e')
  (fun{a} e d' g=>by
   cases g with
   | lst e' g'=>rw[e] at e';cases e'
   | tup e' g'=>rw[e] at e';cases e'
   | dnil e'=>rfl)
  (fun c g=>by cases g;rfl)
  (fun _ _ l m c g=>by
   cases g with
   | cons a b=>rw[l _ a,m _ b]) h
theorem dat_keep(f:Dat H (.ref a) d0){d:PyData}(h:Dat H v d):d.depth<d0.depth->Dat (upd H a o) v d:=
 Dat.rec (H:=H) (motive_1:=fun v d _=>d.depth<d0.depth->Dat (upd H a o) v d) (motive_2:=fun vs c _=>PyData.depthAll c<d0.depth->DatS (upd H a o) vs c)
  (fun _=>.non) (fun b _=>.bl b) (fun i _=>.int i) (fun x _=>.str x)
  (fun{b xs c} e g j hl=>by
   have hb:b≠a:=fun z=>by subst z;rw[qcD f _ (.lst e g)] at hl;show Yd _ hl
   show .lst (by rw[qh hb];show e) (j ?_);simp only[PyData.depth] at hl;lk)
  (fun{b xs c} e g j hl=>by
   have hb:b≠a:=fun z=>by subst z;rw[qcD f _ (.tup e g)] at hl;show Yd _ hl
   show .tup (by rw[qh hb];show e) (j ?_);simp only[PyData.depth] at hl;lk)
  (fun{b} e hl=>by
   have hb:b≠a:=fun z=>by subst z;rw[qcD f _ (.dnil e)] at hl;show Yd _ hl
   show .dnil (by rw[qh hb];show e))
  (fun _=>.nil)
  (fun _ _ l m hl=>by
   simp only[PyData.depthAll] at hl;show .cons (l (by lk)) (m (by lk))) h
theorem qcj(c:Dat H (.ref a) d0):∀{vs:List V} {b:List PyData},DatS H vs b->PyData.depthAll b<d0.depth->DatS (upd H a o) vs b
 | _,_,.nil,_=>.nil
 | _,_,.cons g r,hl=>by
  simp only[PyData.depthAll] at hl;show .cons (dat_keep c g (by lk)) (qcj c r (by lk))
inductive spVy(vs:List V)(H:Hp)(Q:VK)(E:XK):Prop|mk (p:Addr) (v:V) (k:Nat) (_:vs=[v,v]) (_:Ok p H k 4000 6 v) (_:∀ H',L2.Same H H'->Q (.bl true) H')
theorem ok_vy(F:Fun K "_law_very" "_law_very" qas f fd)(T:Txt K mg cc cw):FnOkW P w K mg base 1 f fd ["_law_found","_law_thing"] spVy:=by
 show F.okW K7 (fun vs H Q E h=>?_) fun D A _ s H vs Q E x h=>?_
 .cases h;subst_vars;rfl
 .obtain⟨p,v,k,rfl,⟨hv,d,I,hw⟩,q⟩:=h;have u:(A.deeper (envOfC "_law_very" (qg qas) s.heap.objs.size f D)).units+100<cLine:=by have Z:=x.un;lk
  have C:=I.same (outH_sub p H);have y:Shw d (2 ^ 20) 60:=hw.mono (by decide) (by decide);have S:∀ t:Str,(if true=true then !eqV (V.str t) (V.str t) else eqV (V.str t) (V.str t))=false:=fun t=>by simp[eqV]
  have U:∀ t:Str,(if false=true then !eqV (V.str t) (V.str t) else eqV (V.str t) (V.str t))=true:=fun t=>by simp[eqV]
  show⟨_,(qb (qG (qk (zq (K:=K) rfl u) (qj (zX (K:=K) rfl u x.gd T.smod) rfl T.b_repr kc (qa (pv 0) qd)) (qj (zX (K:=K) rfl u x.gd T.smod) rfl T.b_repr kc (qa (pv 1) qd)) (qx _)) (qf (qt jr)) qv)
 (qb (qG (qO (qN (qj (zG (K:=K) rfl) rfl T.b_isinstance YC (qa (pv 1) (qa (jt (v:=.ty "list") rfl T.b_list xv rfl) qd))))) (qf (qt jr)) qv)
 (qb (q9 (qb2 (K:=K) rfl yO Ye Yg qL (pv 1) (qa qe qd)))
 (qb (qp (i:=2) K7.nd rfl (yI rfl) (jo (zy (K:=K) rfl u) (qj (zX (K:=K) rfl u x.gd T.smod) rfl T.b_repr kc (qa (pv 0) qd)) (qj (zX (K:=K) rfl u x.gd T.smod) rfl T.b_repr kc (qa (pv 1) qd)) (qx _)))
 (qb (q9 (k_bm0 (K:=K) rfl yO XB XC mtR_pop (pv 1)))
 (qf (qt (pv 2)))))))),?_⟩
  apply⟨_,_,rfl,C,y,?_⟩;apply⟨_,_,rfl,C,y,?_⟩;show .inl ⟨rfl,rfl,?_⟩;rw[S];apply yq ?_;ext;by_cases j:∃ a xs,v=.ref a/\H a=some (.lst xs)
  .obtain⟨a,xs,rfl,m⟩:=j
   have Y:xs.length<=1000:=by
    cases hv with
    | lst e ne h l=>rw[m] at e;cases e;show l
    | tup e ne h l=>rw[m] at e;cases e
    | dct e ne=>rw[m] at e;cases e
    | flat f l=>cases f
   obtain⟨n,rfl,L⟩:∃ n,d=.list n/\DatS H xs n:=by
    cases C with
    | lst e g=>rw[m] at e;cases e;show⟨_,rfl,g⟩
    | tup e g=>rw[m] at e;cases e
    | dnil e=>rw[m] at e;cases e
   show qaB (.inl (.lst m)) rfl (jP K "list" (by simp) "list" (by simp)) ?_;apply yq ?_;apply⟨.inl ⟨rfl,_,.of m⟩,?_⟩;apply⟨a,_,_,rfl,rfl,m,(by rw[Ys];lk),?_⟩;have J:PyData.depthAll n<(PyData.list n).depth:=by simp only[PyData.depth];lk
   have r:Dat (upd H a (.lst (xs++[.int 0]))) (.ref a) (.list (n++[.int 0])):=.lst qc ((qcj C L J).app (.cons (.int 0) .nil));have N:ShwS n 4000 6:=⟨by simpa only[PyData.showable] using hw.s,by simpa only[PyData.leavesShort] using hw.l,by simpa only[PyData.bulk] using hw.b,by have:=hw.p;simp only[PyData.depth] at this;lk⟩;have B:Shw (.list (n++[.int 0])) (2 ^ 20) 60:=((N.app (.cons (Shw.int (by decide) (by decide)) .nil)).list).mono (by decide) (by decide);have G:upd H a (.lst (xs++[.int 0])) a=some (.lst (xs++[.int 0])):=qc
   have O:L2.Same H (upd (upd H a (.lst (xs++[.int 0]))) a (.lst xs)):=fun c o e=>by
    by_cases hc:c=a
    .subst hc;rw[qc,<- m];show e
    .rw [qh hc,qh hc];show e
   generalize upd H a (.lst (xs++[.int 0]))=H1 at r G O;apply⟨_,_,rfl,r,B,?_⟩;apply⟨_,_,rfl,r,B,?_⟩;show .inl (.inl (.inl ⟨rfl,rfl,?_⟩));rw[U];apply⟨.inl ⟨rfl,_,.of G⟩,?_⟩;apply⟨a,_,.int 0,rfl,rfl,G,by simp,?_⟩;rw[List.dropLast_concat];apply q _ O
  .have M:∀(a:Addr) (xs:List V),v=.ref a->H a≠some (.lst xs):=fun a xs e R=>j ⟨a,xs,e,R⟩
   obtain⟨t,X,W,ty⟩:∃ t:String,t∈["NoneType","bool","int","str","list","tuple","dict"]/\qdv t "list"=false/\TyOf K H v (.type t):=by
    cases hv with
    | flat f l =>
     cases v with
     | non=>show⟨_,by simp,rfl,.non⟩
     | bl b=>show⟨"bool",by simp,rfl,.bl b⟩
     | int i=>show⟨"int",by simp,rfl,.int i⟩
     | str z=>show⟨"str",by simp,rfl,.str z⟩
     | _=>cases f
    | lst e ne h l=>show absurd e (M _ _ rfl)
    | tup e ne h l=>show⟨"tuple",by simp,rfl,.tup e⟩
    | dct e ne=>show⟨"dict",by simp,rfl,.dK e⟩
   show qaB (.inl ty) rfl (jP K t X "list" (by simp)) ?_;rw[W];apply qaC ?_;apply q H (Sr H)
inductive spRfB(cw:Addr)(vs:List V)(H:Hp)(Q:VK)(E:XK):Prop|mk (p x:Addr) (ss:LS) (ns:LN) (tps:LP) (v u d:V) (_:vs=[.ref x,v,u,d]) (_:BdA p cw H x ss ns tps d) (_:Ok p H 3 4000 6 d) (_:(v=d\/((∃(l:Addr) (us:LI) (qs:LP),v=.ref l/\PL H l us qs/\PGo ss tps qs)/\u=d))) (_:∀ H',L2.Same H H'->Q (.bl true) H')
theorem ok_rfB(F:Fun K "_law_refused" "_law_refused" zw f fd)(T:Txt K mg cc cw)(o:W.mroIn K (cc 0) (.ref (cc 0))=some true)(t:DefOk P w K mg base (CX1 P w) 10 "between" ["web","one","other"] (spBtB cc cw))
  (WD_l_very:DefOkW P w K mg base 1 "_law_very" ["_law_found","_law_thing"] spVy):FnOk P w K mg base CX0 11 f fd ["_law_web_here","_law_one","_law_other","_law_due"] (spRfB cw):=by
 show F.ok KN fun _ _ _ _ H vs Q E n h=>?_
 .obtain⟨p,x,ss,ns,tps,v,u,d,rfl,hb,B,m,q⟩:=h;have L:=zT n;show⟨_,(qb (ps_try rfl rfl rfl qv)
 (qf (qt jr))),?_⟩
  apply⟨fun I c e H'=>∃ b,c=.ref (cc 0)/\e=some b/\L2.Same H H'/\H' b=some (.xd [(qe3 0,d)])/\I=[some (.ref x),some v,some u,some d,none],_,fun pn xe qb5=>(qf (q9 (qcu t (hmR n) qb5 (qa (pv 0) (qa (pv 1) (qa (pv 2) qd)))))),?_,fun a C y J H' A g=>?_⟩
  .have r:Rz cc H (fun c e H'=>∃ b,c=.ref (cc 0)/\e=some b/\L2.Same H H'/\H' b=some (.xd [(qe3 0,d)])/\[some (.ref x),some v,some u,some d,none]=[some (.ref x),some v,some u,some d,none]) (0,d):=fun b H' s' j=>⟨b,rfl,rfl,s',j,rfl⟩;apply⟨p,x,ss,ns,tps,v,u,rfl,?_⟩;rcases m with rfl | ⟨hg,rfl⟩
   .show .inl ⟨hb,r⟩
   .show .inr ⟨hg,hb,r⟩
  .obtain⟨b,l,rfl,s,j,rfl⟩:=A;cases l;show⟨_,(ph_as (K:=K) rfl KN.nd (i:=4) rfl rfl rfl T.m_NoPairs (qf (qt (zD (pe_not (qj (zG (K:=K) rfl) rfl T.b_isinstance YC (qa (pv 4) (qa (qdx (v:=.ref (cc 1)) rfl T.m_NoRow rfl) qd)))) (zR (pe_defW WD_l_very (n.soft (by decide)) (qa (zF (K:=K) rfl (pv 4) rfl) (qa (pv 3) qd))))))) ph_nil),?_⟩;show⟨true,o,T.xat 0 (by decide),T.xat 0 (by decide),qaC ?_⟩;have G:TyX K H' (.ref a) (.ref (cc 0)):=.inr ⟨a,cc 0,some b,rfl,rfl,.inr g,T.xat 0 (by decide),fun d z=>by cases z;show⟨_,j⟩⟩;apply qaB G rfl (T.kit 0 1 (by decide) (by decide)) ?_;show⟨false,rfl,true,rfl,qaC ?_⟩;apply .inr ⟨a,cc 0,b,_,d,rfl,.inr g,T.xat 0 (by decide),T.na 0 (by decide),j,rfl,?_⟩;apply⟨p,d,3,rfl,B.same s,fun H2 D=>?_⟩;show q H2 (s.trans D)
theorem KG:FnScope ["_law_ties","_law_one","_law_other","_law_found","_law_tie"] ["_law_ties","_law_one","_law_other"] (qg zP):=fS
theorem un_snoc{f:Str->Option Str}{t:Str×Str}:unL (tps++[t]) f g=if Dx f g t.1 t.2 then unL tps f g++[t] else unL tps f g:=by
 unfold unL;rw[xQ,YM,Xj];split
 .rfl
 .rw [Yt]
inductive spUn(vs:List V)(H:Hp)(Q:VK)(E:XK):Prop|mk (l d1 d2:Addr) (us:LI) (tps qs rs:LP) (_:vs=[.ref l,.ref d1,.ref d2]) (_:PL H l us tps) (_:tps.length<=30) (_:H d1=some (.dK (prK qs))) (_:H d2=some (.dK (prK rs))) (_:∀(r:Addr) (ws:LI) (H':Hp),L2.Same H H'->H r=none->PL H' r ws (unL tps (pt qs) (pt rs))->Q (.ref r) H')
theorem ok_un(F:Fun K "_law_unlike" "_law_unlike" zP f fd)(T:Txt K mg cc cw):FnOk P w K mg base CX0 1 f fd ["_law_ties","_law_one","_law_other"] spUn:=by
 show F.ok KG fun _ _ _ _ H vs Q E Z h=>?_
 .obtain⟨l,O,R,us,tps,qs,rs,rfl,v,Y,h1,U,q⟩:=h;have g:=zT Z;have j:=v.2.len;show⟨_,(qb (qp (i:=3) KG.nd rfl (yI rfl) (qK qd))
 (qb (qU yW rfl (qM (K:=K) rfl (pv 0)) (qu (i:=4) KG.nd rfl (yI rfl))
 (qf (qG (qk (zq (K:=K) rfl g) (jo (zy (K:=K) rfl g) (qac (qfu g) (pv 1) (qq (qr (K:=K) rfl g) (pv 4) qe (fun _ _=>rfl)) ⟨rfl,rfl,rfl,rfl⟩) (qq (qr (K:=K) rfl g) (pv 4) qe (fun _ _=>rfl)) (qx _)) (jo (zy (K:=K) rfl g) (qac (qfu g) (pv 2) (qq (qr (K:=K) rfl g) (pv 4) qe (fun _ _=>rfl)) ⟨rfl,rfl,rfl,rfl⟩) (qq (qr (K:=K) rfl g) (pv 4) qe (fun _ _=>rfl)) (qx _)) (qx _)) (qf (q9 (qb2 (K:=K) rfl yO Ye Yg qL (pv 3) (qa (pv 4) qd)))) qv)))
 (qf (qt (pv 3))))),?_⟩
  apply⟨by show 0<=sizeLine;decide,fun r m=>?_⟩;have D:=qF (Sr H) (o:=.lst []) m;have S:upd H r (.lst []) r=some (.lst (([]:LI).map V.ref)):=qc;generalize upd H r (.lst [])=H1 at D S;have M:∀{b:Addr} {o:HO},H b=some o->b≠r:=fun e z=>by rw[z,m] at e;cases e
  apply .inl ⟨⟨_,.of (D _ _ v.1)⟩,qR (xs:=us.map V.ref) (fun i G J=>BxD r H1 J/\(∃ ws,PL J r ws (unL (tps.take i) (pt qs) (pt rs)))/\∃ N,G=[some (.ref l),some (.ref O),some (.ref R),some (.ref r),N]) ⟨fun b o _ e=>e,⟨[],S,.nil⟩,_,rfl⟩ (fun i G J _ x=>.of (x.1 _ _ (M v.1) (D _ _ v.1))) (fun i y G J X x=>?_) fun G J x=>?_⟩
  .obtain⟨s,⟨ws,d⟩,N,rfl⟩:=x;rw[yd] at X;obtain⟨u,A,rfl⟩:=yn.mp X;obtain⟨t,W⟩:∃ t,tps[i]?=some t:=⟨_,yb (by rw[<- j];show(yc.mp A).1)⟩;have B:∀{b:Addr} {o:HO},H b=some o->J b=some o:=fun e=>s _ _ (M e) (D _ _ e);have p:=B (v.2.at_ i u t A W);have tk:tps.take (i+1)=tps.take i++[t]:=by rw[yR,W];rfl
   have wl:ws.length<=30:=by
    rw[d.2.len];show yi (YB _ _) (by rw[yL];lk)
   rw[tk,un_snoc];apply qb9 ?_;apply⟨O,rfl,.inl ⟨_,.inl (B h1)⟩,?_⟩;apply .inl (.inr (.inl ⟨u,_,_,_,rfl,rfl,SqT.of p,rfl,?_⟩));show⟨_,DGet.k (k:=Sum.inr t.1) (B h1),?_⟩;rw[zH];apply .inl (.inr (.inl ⟨u,_,_,_,rfl,rfl,SqT.of p,rfl,?_⟩));show qek ?_;apply qb9 ?_;apply⟨R,rfl,.inl ⟨_,.inl (B U)⟩,?_⟩;apply .inl (.inr (.inl ⟨u,_,_,_,rfl,rfl,SqT.of p,rfl,?_⟩));show⟨_,DGet.k (k:=Sum.inr t.1) (B U),?_⟩;rw[zH];apply .inl (.inr (.inl ⟨u,_,_,_,rfl,rfl,SqT.of p,rfl,?_⟩));show qek ?_;show qga ?_;show⟨_,rfl,qE (fun L=>?_) (fun L=>?_)⟩
   .have I:Dx (pt qs) (pt rs) t.1 t.2=true:=L;rw[yG I];apply⟨.inl ⟨rfl,_,SqL.of d.1⟩,?_⟩;apply⟨r,_,_,rfl,rfl,d.1,by rw[ya];show qi (by lk),?_⟩;rw[show(ws.map V.ref)++[V.ref u]=(ws++[u]).map V.ref by rw[yE];rfl];have C:∀{c:Addr} {xs:List V},J c=some (.tup xs)->c≠r:=fun z e=>by rw[e,d.1] at z;cases z
    show⟨fun b o n e=>by rw[qh n];show s b o n e,⟨ws++[u],qc,All2.snoc (d.2.mono fun a q z=>by rw[qh (C z)];show z) (by rw[qh (C p)];show p)⟩,_,rfl⟩
   .have I:¬ Dx (pt qs) (pt rs) t.1 t.2=true:=L;rw[yB I];apply⟨s,⟨ws,d⟩,_,rfl⟩
  .obtain⟨s,⟨ws,d⟩,N,rfl⟩:=x;rw[ya,j,Yc] at d;apply q r ws J (fun b o e=>s b o (M e) (D _ _ e)) m d
structure Rng(ss rg:LS)(m:Nat):Prop where
 nd:rg.Nodup
 inn:∀ x∈rg,x∈ss
 len:rg.length=2*m
 lo:2<=m
 hi:m<=7
noncomputable def prv(n k:Nat):Nat:=if k=0 then n-1 else k-1
noncomputable def nxK(n k:Nat):Nat:=if k+1=n then 0 else k+1
noncomputable def rA(rg:LS)(k:Nat):Str:=rg.getD k ""
noncomputable def rT(rg:LS)(k:Nat):Str×Str:=(rA rg (prv rg.length k),rA rg k)
noncomputable def rTs(rg:LS)(m:Nat):LP:=(List.range (2*m)).map (rT rg)
noncomputable def rE(rg:LS)(m:Nat):LP:=(List.range m).map fun i=>(rA rg (prv rg.length (2*i)),rA rg (2*i))
noncomputable def rO(rg:LS)(m:Nat):LP:=(List.range m).map fun i=>(rA rg (2*i+1),rA rg (2*i))
theorem qat{k:Nat}(h:k<n):prv n k<n:=by unfold prv;split<;>lk
theorem qd7{k:Nat}(h:k<n):nxK n k<n:=by unfold nxK;split<;>lk
theorem prv_nxK{k:Nat}(h:k<n):prv n (nxK n k)=k:=by
 unfold nxK;split
 .unfold prv;rw[yG rfl];lk
 .unfold prv;rw[yB (by lk)];lk
theorem qdj{k:Nat}(h:k<n)(a:3<=n):prv n k≠k/\prv n (prv n k)≠k/\prv n k≠nxK n k:=by
 unfold prv nxK;show⟨?_,?_,?_⟩<;>(repeat' split)<;>lk
theorem qbG(b:DT ss tps)(a:DP tps qs):PGo ss tps qs:=⟨fun q c=>⟨a.ok q c,by
 rcases a.ok q c with z | z
 .show b.ok _ z
 .obtain⟨h1,d,e⟩:=b.ok _ z;show⟨d,h1,Yq e⟩⟩,a.nd,a.few⟩
section
variable{ss rg:LS}{m:Nat}
theorem za{k:Nat}(h:k<rg.length):rg[k]?=some (rA rg k):=by
 unfold rA;rw[YW,yb h];rfl
theorem qck{k:Nat}(h:k<rg.length):rA rg k∈rg:=ye (za h)
theorem jM(c:rg.Nodup)(a:i<rg.length)(b:j<rg.length)(e:rA rg i=rA rg j):i=j:=ndx c (za a) (e ▸ za b)
theorem qa6(g:rg.Nodup)(a b:Nat->Nat):∀{l:LN},(∀ i∈l,a i<rg.length/\b i<rg.length)->(∀ i∈l,∀ j∈l,a i≠b j)->(∀ i∈l,∀ j∈l,a i=a j->i=j)->(∀ i∈l,∀ j∈l,b i=b j->i=j)->l.Nodup->(qm (l.map fun i=>(rA rg (a i),rA rg (b i)))).Nodup
 | [],_,_,_,_,_=>List.nodup_nil
 | x::r,h1,h2,h3,h4,h5=>by
  obtain⟨n,s⟩:=yo.mp h5;have p:=qa6 g a b (l:=r) (fun i f=>h1 i (yu _ f)) (fun i f j d=>h2 i (yu _ f) j (yu _ d)) (fun i f j d=>h3 i (yu _ f) j (yu _ d)) (fun i f j d=>h4 i (yu _ f) j (yu _ d)) s
  have mem:∀ y∈qm (r.map fun i=>(rA rg (a i),rA rg (b i))),∃ j∈r,y=rA rg (a j)\/y=rA rg (b j):=fun y m=>by
   obtain⟨q,o,m⟩:=kF.mp m;obtain⟨j,d,rfl⟩:=yQ.mp o;show⟨j,d,?_⟩;rcases yA.mp m with e | e
   .show .inl e
   .show .inr (yx.mp e)
  have h:=h1 x yy;show(rA rg (a x)::rA rg (b x)::qm (r.map fun i=>(rA rg (a i),rA rg (b i)))).Nodup;show yo.mpr ⟨fun z=>?_,yo.mpr ⟨fun z=>?_,p⟩⟩
  .rcases yA.mp z with z | z
   .show h2 x yy x yy (jM g h.1 h.2 z)
   .obtain⟨j,d,e⟩:=mem _ z;have c:=yu x d;rcases e with e | e
    .show n ((h3 x yy j c (jM g h.1 (h1 j c).1 e)) ▸ d)
    .show h2 x yy j c (jM g h.1 (h1 j c).2 e)
  .obtain⟨j,d,e⟩:=mem _ z;have c:=yu x d;rcases e with e | e
   .show h2 j c x yy (jM g (h1 j c).1 h.2 e.symm)
   .show n ((h4 x yy j c (jM g h.2 (h1 j c).2 e)) ▸ d)
theorem Rng.dt(R:Rng ss rg m):DT ss (rTs rg m):=by
 have hl:=R.len;have r:=R.lo;have s:=R.hi
 have at_:∀{t},t∈rTs rg m->∃ k,k<2*m/\t=rT rg k:=fun c=>by
  obtain⟨k,d,rfl⟩:=yQ.mp c;show⟨k,yV.mp d,rfl⟩
 show⟨by unfold rTs;rw[ya,Yk];lk,fun t c=>?_,?_,fun t c p=>?_⟩
 .obtain⟨k,d,rfl⟩:=at_ c;have a:k<rg.length:=by lk
  show⟨R.inn _ (qck (qat a)),R.inn _ (qck a),fun e=>(qdj a (by lk)).1 (jM R.nd (qat a) a e)⟩
 .show YV.mpr (List.nodup_range.imp_of_mem fun{i j} o g f e=>f ?_);show jM R.nd (by have:=yV.mp o;lk) (by have:=yV.mp g;lk) (kO.mp e).2
 .obtain⟨k,d,rfl⟩:=at_ c;obtain⟨j,g,e⟩:=at_ p;have a:k<rg.length:=by lk
  have b:j<rg.length:=by lk
  obtain⟨l,n⟩:=kO.mp e;have h:=jM R.nd a (qat b) l;have q:=jM R.nd (qat a) b n;rw[<- q] at h;show(qdj a (by lk)).2.1 h.symm
theorem Rng.ts_in(R:Rng ss rg m){k:Nat}(h:k<2*m):rT rg k∈rTs rg m:=yQ.mpr ⟨k,yV.mpr h,rfl⟩
theorem Rng.dpE(R:Rng ss rg m):DP (rTs rg m) (rE rg m):=by
 have hl:=R.len;have d:=R.lo;have f:=R.hi;show⟨?_,fun q c=>?_,by unfold rE;rw[ya,Yk];lk⟩
 .show qa6 R.nd (fun i=>prv rg.length (2*i)) (fun i=>2*i) (fun i a=>?_) (fun i a j b=>?_) (fun i a j b e=>?_) (fun i a j b e=>?_) List.nodup_range
  .have:=yV.mp a;show⟨qat (by lk),by lk⟩
  .have:=yV.mp a;have:=yV.mp b;unfold prv;split<;>lk
  .have:=yV.mp a;have:=yV.mp b;unfold prv at e;split at e<;>split at e<;>lk
  .omega
 .obtain⟨i,a,rfl⟩:=yQ.mp c;have:=yV.mp a;show .inl (R.ts_in (by lk))
theorem qcE:prv n (2*i+1)=2*i:=by unfold prv;rw[yB (by lk)];lk
theorem Rng.dpO(R:Rng ss rg m):DP (rTs rg m) (rO rg m):=by
 have hl:=R.len;have d:=R.lo;have f:=R.hi;show⟨?_,fun q c=>?_,by unfold rO;rw[ya,Yk];lk⟩
 .show qa6 R.nd (fun i=>2*i+1) (fun i=>2*i) (fun i a=>?_) (fun i a j b=>?_) (fun i a j b e=>?_) (fun i a j b e=>?_) List.nodup_range
  .have:=yV.mp a;show⟨by lk,by lk⟩
  .omega
  .omega
  .omega
 .obtain⟨i,a,rfl⟩:=yQ.mp c;have:=yV.mp a;show .inr ?_;have:=R.ts_in (k:=2*i+1) (by lk);unfold rT at this;rw[qcE] at this;show this
theorem Rng.two(R:Rng ss rg m)(b:ss.Nodup)(a:ss.length<=14):Two ss (pt (rE rg m)) (pt (rO rg m)):=qdf b a R.dt (qbG R.dt R.dpE).pf (qbG R.dt R.dpO).pf
theorem Rng.dx(R:Rng ss rg m){k:Nat}(h:k<2*m):Dx (pt (rE rg m)) (pt (rO rg m)) (rA rg (prv rg.length k)) (rA rg k)=true:=by
 have hl:=R.len;have s:=R.lo;have c:k<rg.length:=by lk
 have r:=qat c;have ne:=qdj c (by lk);rw[dx_iff]
 have l:∀ a b,(a,b)∈rE rg m->∃ i,i<m/\a=rA rg (prv rg.length (2*i))/\b=rA rg (2*i):=fun a b z=>by
  obtain⟨i,o,e⟩:=yQ.mp z;obtain⟨d,f⟩:=kO.mp e;show⟨i,yV.mp o,d.symm,f.symm⟩
 have n:∀ a b,(a,b)∈rO rg m->∃ i,i<m/\a=rA rg (2*i+1)/\b=rA rg (2*i):=fun a b z=>by
  obtain⟨i,o,e⟩:=yQ.mp z;obtain⟨d,f⟩:=kO.mp e;show⟨i,yV.mp o,d.symm,f.symm⟩
 by_cases t:k % 2=0
 .obtain⟨i,rfl⟩:∃ i,k=2*i:=⟨k / 2,by lk⟩;show .inl ⟨qej R.dpE.nd (.inl (yQ.mpr ⟨i,yV.mpr (by lk),rfl⟩)),fun z=>?_⟩;rcases qa2 z with z | z
  .obtain⟨j,p,d,f⟩:=n _ _ z;have g:=jM R.nd r (by lk) d;have q:=jM R.nd c (by lk) f;unfold prv at g;split at g<;>lk
  .obtain⟨j,p,d,f⟩:=n _ _ z;have g:=jM R.nd c (by lk) d;lk
 .obtain⟨i,rfl⟩:∃ i,k=2*i+1:=⟨k / 2,by lk⟩;rw[qcE];show .inr ⟨fun z=>?_,qej R.dpO.nd (.inr (yQ.mpr ⟨i,yV.mpr (by lk),rfl⟩))⟩;rcases qa2 z with z | z
  .obtain⟨j,p,d,f⟩:=l _ _ z;have q:=jM R.nd c (by lk) f;lk
  .obtain⟨j,p,d,f⟩:=l _ _ z;have g:=jM R.nd c (qat (by lk)) d;have q:=jM R.nd (by lk) (by lk) f;unfold prv at g;split at g<;>lk
theorem qaP:∀{pl seen:LS},(∀ z∈pl,(nb z).length≠e)->ptF nb e pl seen=[]
 | [],_,_=>rfl
 | z::r,seen,h=>by
  unfold ptF;rw[yB fun k=>h z yy k.1];show qaP fun y a=>h y (yu _ a)
theorem Rng.one(R:Rng ss rg m)(L:ss.Nodup)(u:ss.length<=14):(qaO ss (pt (rE rg m)) (pt (rO rg m))).length=1:=by
 have T:=R.two L u;have hl:=R.len;have w:=R.lo
 have nx:∀{k},k<2*m->Dx (pt (rE rg m)) (pt (rO rg m)) (rA rg k) (rA rg (nxK rg.length k))=true:=fun{k} c=>by
  have:=R.dx (k:=nxK rg.length k) (by rw[<- hl];show qd7 (by lk));rw[prv_nxK (by lk)] at this;show this
 have D:∀{k},k<2*m->(nbL ss (pt (rE rg m)) (pt (rO rg m)) (rA rg k)).length=2:=fun{k} c=>T.deg2 (T.sym (R.dx c)) (nx c) fun e=>(qdj (n:=rg.length) (k:=k) (by lk) (by lk)).2.2 (jM R.nd (qat (by lk)) (qd7 (by lk)) e)
 have s:∀{z y},Dx (pt (rE rg m)) (pt (rO rg m)) z y=true->z∈rg:=fun{z y} h=>by
  have names:∀ a b,((a,b)∈rE rg m\/(a,b)∈rO rg m)->a∈rg/\b∈rg:=fun a b k=>by
   rcases k with k | k
   .obtain⟨i,x,e⟩:=yQ.mp k;have:=yV.mp x;cases e;show⟨qck (qat (by lk)),qck (by lk)⟩
   .obtain⟨i,x,e⟩:=yQ.mp k;have:=yV.mp x;cases e;show⟨qck (by lk),qck (by lk)⟩
  rcases dx_iff.mp h with⟨k,_⟩ | ⟨_,k⟩
  .rcases qa2 k with q | q
   .show(names _ _ (.inl q)).1
   .show(names _ _ (.inl q)).2
  .rcases qa2 k with q | q
   .show(names _ _ (.inr q)).1
   .show(names _ _ (.inr q)).2
 have p:∀{z},z∈rg->∃ k,k<2*m/\z=rA rg k:=fun{z} o=>by
  obtain⟨k,c⟩:=yf o;have B:=(yc.mp c).1;show⟨k,by lk,ym (c.symm.trans (za B))⟩
 have all:∀{U:LS},ClD (pt (rE rg m)) (pt (rO rg m)) U->∀{z},z∈U->z∈rg->rA rg 0∈U:=fun{U} K {z} o E=>by
  obtain⟨k,c,rfl⟩:=p E;clear E
  have M:∀ d k,k+d=2*m->k<2*m->rA rg k∈U->rA rg 0∈U:=fun d=>by
   induction d with
   | zero=>intro k h1 w;lk
   | succ d ih =>
    intro k h1 w J;have t:=K _ J _ (nx w);by_cases e:k+1=rg.length
    .rw [show nxK rg.length k=0 by unfold nxK;rw[yG e]] at t;show t
    .rw [show nxK rg.length k=k+1 by unfold nxK;rw[yB e]] at t;show ih (k+1) (by lk) (by lk) t
  show M (2*m-k) k (by lk) c o
 have I:qaD ss (pt (rE rg m)) (pt (rO rg m))=[]:=qaP fun z o h1=>by
  obtain⟨y,C⟩:=Y8 (l:=nbL ss (pt (rE rg m)) (pt (rO rg m)) z) (by lk);obtain⟨k,c,rfl⟩:=p (s (T.mem.mp C));rw[D c] at h1;lk
 have A:=T.ptA;unfold qaO;rw[I] at A ⊢
 have v:rA rg 0∈(qar ss (pt (rE rg m)) (pt (rO rg m))).flatten:=by
  have:=A.all (rA rg 0) (R.inn _ (qck (by lk))) (by rw[D (by lk)];decide);simpa using this
 have f:=A.nd;have j:=A.ring
 match qar ss (pt (rE rg m)) (pt (rO rg m)),v,f,j with
 | [],v,_,_=>simp at v
 | [_],_,_,_=>rfl
 | Y1::Y2::r,_,f,j =>
  have F:∀ Yw,RgW ss (pt (rE rg m)) (pt (rO rg m)) Yw->rA rg 0∈Yw:=fun Yw g=>by
   obtain⟨z,o⟩:=Y8 (l:=Yw) (by have:=g.four;lk);obtain⟨y,C⟩:=Y8 (l:=nbL ss (pt (rE rg m)) (pt (rO rg m)) z) (by rw[g.two z o];decide);show all g.cl o (s (T.mem.mp C))
  have G:=F Y1 (j Y1 (by simp)).1;have H:=F Y2 (j Y2 (by simp)).1;rw[List.flatten_nil,XW,Yu,Yu] at f;show absurd rfl ((yZ.mp f).2.2 _ G _ (Yb _ H))
end
theorem Ku:FnScope ["_law_box_here","_law_many","_law_names_here","_law_left","_law_ring_here","_law_ties"] ["_law_box_here"] (qg zx):=fS
inductive spRg(vs:List V)(H:Hp)(Q:VK)(E:XK):Prop|mk (p:Addr) (N:Nat) (_:vs=[.ref p]) (_:Pn (N+40) H p) (_:∀(t n l e o:Addr) (ss rg:LS) (m:Nat) (us es os:LI) (H':Hp),But p H H'->Pn N H' p->H' t=some (.tup [.ref n,.ref l,.ref e,.ref o])->H' n=some (.lst (ss.map V.str))->NOk ss->Rng ss rg m->PL H' l us (rTs rg m)->PL H' e es (rE rg m)->PL H' o os (rO rg m)->Q (.ref t) H')
theorem ok_rg(F:Fun K "_law_ring" "_law_ring" zx f fd)(T:Txt K mg cc cw)(kZ:DefOk P w K mg base CX0 1 "_law_take" ["_law_box_here","_law_many"] spTkN)(KM:DefOk P w K mg base CX0 2 "_law_names" ["_law_box_here","_law_many"] spNmA):FnOk P w K mg base CX0 3 f fd ["_law_box_here"] spRg:=by
 show F.ok Ku fun _ _ _ _ H vs Q E hr h=>?_
 .obtain⟨p,N,rfl,hB,q⟩:=h;have hu:=zT hr;show⟨_,(qb (qp (i:=1) Ku.nd rfl (yI rfl) (qA (jT (K:=K) rfl) qe (qA qb1 qe (qo kZ (hmR hr) qy (qa (pv 0) (qa qe qd))))))
 (qb (qp (i:=2) Ku.nd rfl (yI rfl) (qo KM (hmR hr) qy (qa (pv 0) (qa (qj (call_min2 rfl) rfl T.b_min boot_min (qa qe (qa (qA (jT (K:=K) rfl) (pv 1) (qo kZ (hmR hr) qy (qa (pv 0) (qa qe qd)))) qd))) qd))))
 (qb (qp (i:=3) Ku.nd rfl (Xw rfl) (je (zW (K:=K) rfl rfl) rfl T.b_list xv (qa (pv 2) qd)))
 (qb (qp (i:=4) Ku.nd rfl (Xw rfl) (j7 (sc:=qg zx) (XN:=["_law_box_here","_law_many","_law_names_here","_law_left","_law_ring_here","_law_ties"]) ["_law_k","_law_left","_law_box_here"] 1 [3,0] rfl rfl rfl (by room) rfl (by room)
  (jd rfl T.b_range (qa (pv 1) qd)) (fun _ _ _ _=>(qu (i:=0) (show(["_law_k","_law_left","_law_box_here"]:LS).Nodup by room) rfl (yI rfl))) jc
  (fun _ _ _ _=>jv)
  (fun _ _ _ _=>(qb2 (K:=K) rfl yO XB XC qb6 (pv 1) (qa (qo kZ (hmR hr) qy (qa (pv 2) (qa (qj (jw (K:=K) rfl) rfl T.b_len Yy (qa (pv 1) qd)) qd))) qd)))))
 (qb (qaz (sc:=qg zx) (XN:=["_law_box_here","_law_many","_law_names_here","_law_left","_law_ring_here","_law_ties"]) ["_law_k","_law_ring_here"] 1 [4] rfl rfl rfl (by room) rfl (by room) (i:=5) Ku.nd rfl rfl
  (jd rfl T.b_range (qa (pv 1) qd)) (fun _ _ _ _=>(qu (i:=0) (show(["_law_k","_law_ring_here"]:LS).Nodup by room) rfl (yI rfl))) jc
  (fun _ _ _ _=>jv)
  (fun _ _ _ _=>(qV (qa (qq (qr (K:=K) rfl hu) (pv 1) (qA qcL (pv 0) qe) (fun _ _=>rfl)) (qa (qq (qr (K:=K) rfl hu) (pv 1) (pv 0) (fun _ _=>rfl)) qd)))))
 (qf (qt (qV (qa (pv 2) (qa (pv 5) (qa (qdV (K:=K) rfl (pv 5) qbq (jR qe)) (qa (j7 (sc:=qg zx) (XN:=["_law_box_here","_law_many","_law_names_here","_law_left","_law_ring_here","_law_ties"]) ["_law_tie"] 1 [] rfl rfl rfl (by room) rfl (by room)
  (qM (K:=K) rfl (qdV (K:=K) rfl (pv 5) (jR qe) (jR qe))) (fun _ _ _ _=>(qu (i:=0) (show(["_law_tie"]:LS).Nodup by room) rfl (yI rfl))) jc
  (fun _ _ _ _=>jv)
  (fun _ _ _ _=>(qeD (K:=K) rfl (pv 0) (jR (qcn qaQ qe))))) qd)))))))))))),?_⟩
  apply⟨p,6,N+39,rfl,hB,by decide,by decide,fun d1 H1 bi b1 hB1=>?_⟩;apply⟨.inl ⟨by decide,by decide⟩,?_⟩;apply⟨p,3,N+38,rfl,hB1,by decide,by decide,fun d2 H2 bj b2 av=>?_⟩;apply⟨14,_,rfl,?_⟩;ext;obtain⟨m,hm⟩:∃ m,m=2+d1:=⟨_,rfl⟩;obtain⟨M,hM⟩:∃ M,M=2*m:=⟨_,rfl⟩;have em:(4+2*(d1:Int))=(M:Int):=by lk
  rw[em];obtain⟨z,hz⟩:∃ z,z=if M+d2<14 then M+d2 else 14:=⟨_,rfl⟩
  have ez:(if (M:Int)+(d2:Int)<14 then(M:Int)+(d2:Int) else 14)=(z:Int):=by
   rw[hz];split<;>split<;>lk
  rw[ez];have an:z<=14/\M<=z:=by rw[hz];split<;>lk
  show⟨p,z,N+22,rfl,av,an.1,fun n ss H3 b3 af bn bb hn hO al=>?_⟩;apply .inl ⟨n,_,rfl,.inl (.of hn),fun O L=>?_⟩;have ao:=af.apart L;have s4:=qF (Sr H3) (o:=.lst (ss.map V.str)) L;have ad:upd H3 O (.lst (ss.map V.str)) O=some (.lst (ss.map V.str)):=qc;generalize upd H3 O (.lst (ss.map V.str))=H4 at s4 ad;have aq:But p H H4:=fun c o hc e=>s4 _ _ (b3 c o hc (b2 c o hc (b1 c o hc e)));have bf:n≠O:=fun e=>by rw[e,L] at hn;cases hn
  apply⟨(M:Int),rfl,by lk,by lk,?_⟩;rw[Yj];show zc (lo:=0) (n:=M) (fun i B J=>i<=M/\qfx p O H4 J/\Pn (N+8+(14-i)) J p/\∃ xs b:LS,B=xs.map V.str/\xs.length=i/\J O=some (.lst (b.map V.str))/\(xs++b).Perm ss) ⟨yU _,fun c o _ _ e=>e,af.same s4,[],ss,rfl,rfl,ad,.refl _⟩ (fun i B J hi Z=>?_) fun B J Z=>?_
  .obtain⟨_,bJ,X,xs,b,rfl,am,I,u⟩:=Z;have az:xs.length+b.length=z:=by rw[<- al,<- u.length_eq,yz]
   apply qaC ?_;apply⟨.inl ⟨rfl,_,.of I⟩,?_⟩;apply ze I ?_;rw[ya];apply⟨p,b.length,N+8+(14-(i+1)),rfl,X.mono (by lk),by lk,by lk,fun d J5 hd b5 W=>?_⟩;have ae:=b5 _ _ ao I;obtain⟨x,hx⟩:∃ x,b[d]?=some x:=⟨_,yb (by lk)⟩;show⟨O,_,(d:Int),d,.str x,rfl,rfl,ae,by lk,by lk,qeP (by rw[ya];lk),by rw[yd,hx];rfl,?_⟩;rw[qa1]
   have aw:Pn (N+8+(14-(i+1))) (upd J5 O (.lst ((b.eraseIdx d).map V.str))) p:=by
    obtain⟨a1,a2,a3,a4,a5⟩:=W;show⟨a1,a2,a3,by rw[qh (Yq ao)];show a4,a5⟩
   show⟨by rw[ya];show qi (by lk),by lk,fun c o n1 n2 e=>by rw[qh n2];show b5 _ _ n1 (bJ c o n1 n2 e),aw,xs++[x],b.eraseIdx d,by rw[yE];rfl,by rw[yz,am];rfl,qc,?_⟩
   have pe:(x::b.eraseIdx d).Perm b:=by
    obtain⟨bm,ex⟩:=yc.mp hx;have e1:b.take d++x::b.drop (d+1)=b:=by rw[<- ex,List.getElem_cons_drop,xW]
    have e2:=(List.perm_middle (a:=x) (l₁:=b.take d) (l₂:=b.drop (d+1))).symm;rw[e1] at e2;rw[List.eraseIdx_eq_take_drop_succ];show e2
   rw[YE];show((List.Perm.append_left xs pe).trans u)
  .obtain⟨_,bJ,X,rg,b,rfl,am,I,u⟩:=Z;show⟨by rw[ya];show yP (qi (by lk)),fun rl bd=>?_⟩;have s5:=qF (Sr J) (o:=.lst (rg.map V.str)) bd;have U:upd J rl (.lst (rg.map V.str)) rl=some (.lst (rg.map V.str)):=qc;generalize upd J rl (.lst (rg.map V.str))=H5 at s5 U;have az:rg.length+b.length=z:=by rw[<- al,<- u.length_eq,yz]
   have ba:(rg++b).Nodup:=u.nodup_iff.mpr hO.nd;have R:Rng ss rg m:=⟨(yZ.mp ba).1,fun x hx=>u.mem_iff.mp (Yb _ hx),by lk,by lk,by lk⟩
   have ar:But p H H5:=fun c o hc e=>s5 _ _ (by
    by_cases ai:c=O
    .subst ai;have:=b3 c o hc (b2 c o hc (b1 c o hc e));rw[L] at this;cases this
    .show bJ c o hc ai (aq c o hc e))
   have au:=s5 _ _ (bJ _ _ bb bf (s4 _ _ hn));have W:Pn N H5 p:=(X.same s5).mono (by lk);apply⟨(M:Int),rfl,by lk,by lk,?_⟩;rw[Yj];show zc (lo:=0) (n:=M) (fun i B G=>i<=M/\L2.Same H5 G/\∃ us:LI,B=us.map V.ref/\All2 (fun t (ab:Str×Str)=>G t=some (.tup [.str ab.1,.str ab.2])) us ((List.range i).map (rT rg))) ⟨yU _,fun c o e=>e,[],rfl,.nil⟩ (fun i B G hi Z=>?_) fun B G Z=>?_
   .obtain⟨_,sG,us,rfl,C⟩:=Z;have be:us.length=i:=by rw[C.len,ya,Yk]
    apply qaC ?_;apply .inl (zd (sG _ _ U) (v:=.str (rA rg (prv rg.length i))) ?_ ?_)
    .by_cases h0:i=0
     .subst h0;show atI (rg.map V.str) (-((1:Nat):Int))=_;show qaN (j:=1) (by decide) (by rw[ya];lk) ?_;rw[ya,yd,show prv rg.length 0=rg.length-1 from rfl,za (by lk)];rfl
     .have e:(0:Int)+(i:Int)-1=((i-1:Nat):Int):=by lk
      rw[e];show qw ?_;rw[yd,show prv rg.length i=i-1 from yB h0,za (by lk)];rfl
    apply .inl (zd (sG _ _ U) (v:=.str (rA rg i)) ?_ ?_)
    .rw [kN];show qw ?_;rw[yd,za (by lk)];rfl
    apply⟨by show 2<=sizeLine;decide,fun t ht=>?_⟩;have sg:=qF (Sr G) (o:=.tup [.str (rA rg (prv rg.length i)),.str (rA rg i)]) ht;show⟨by rw[ya];show qi (by lk),by lk,sG.trans sg,us++[t],by rw[yE];rfl,?_⟩;rw[xR,yE];show All2.snoc (C.mono fun _ _ e=>sg _ _ e) qc
   .obtain⟨_,sG,us,rfl,C⟩:=Z;have be:us.length=M:=by rw[C.len,ya,Yk]
    show⟨by rw[ya];show yP (qi (by lk)),fun l hl=>?_⟩;have s6:=qF sG (o:=.lst (us.map V.ref)) hl;have ap:=qF (Sr G) (o:=.lst (us.map V.ref)) hl;have el:upd G l (.lst (us.map V.ref)) l=some (.lst (us.map V.ref)):=qc;generalize upd G l (.lst (us.map V.ref))=H6 at s6 ap el;have ag:PL H6 l us (rTs rg m):=⟨el,by unfold rTs;rw[<- hM];show C.mono fun _ _ e=>ap _ _ e⟩;have S:us.length=2*m:=by lk
    have gu:∀ i,i<2*m->us[i]?=some (us.getD i 0):=fun i hi=>by
     rw[YW,yb (by lk)];rfl
    have ac:∀{k},k<2*m->H6 (us.getD k 0)=some (.tup [.str (rT rg k).1,.str (rT rg k).2]):=fun{k} hk=>ag.2.at_ k _ _ (gu k hk) (by unfold rTs;rw[yd,X8 hk];rfl);have pE:=qeL S (fun i=>us.getD i 0) gu false;have pO:=qeL S (fun i=>us.getD i 0) gu true;apply vPk ?_;apply⟨l,_,rfl,SqL.of el,by decide,fun r aj=>?_⟩;rw[qeK,show pkL none (some 2) us=_ from pE];have s7:=qF (Sr H6) (o:=.lst (((List.range m).map fun i=>us.getD (2*i+false.toNat) 0).map V.ref)) aj;have eE:upd H6 r (.lst (((List.range m).map fun i=>us.getD (2*i+false.toNat) 0).map V.ref)) r=some (.lst (((List.range m).map fun i=>us.getD (2*i+false.toNat) 0).map V.ref)):=qc;generalize upd H6 r (.lst (((List.range m).map fun i=>us.getD (2*i+false.toNat) 0).map V.ref))=H7 at s7 eE
    have ax:PL H7 r ((List.range m).map fun i=>us.getD (2*i+false.toNat) 0) (rE rg m):=by
     show⟨eE,by unfold rE;rw[ya,ya],fun j t q h1 h2=>?_⟩;unfold rE at h2;rw[yd] at h1 h2;obtain⟨a,Y,rfl⟩:=yn.mp h1;rw[Y] at h2;cases h2;have:=yV.mp (ye Y);show s7 _ _ (ac (k:=2*a) (by lk))
    apply vPk ?_;apply⟨l,_,rfl,SqL.of (s7 _ _ el),by decide,fun ol bc=>?_⟩;rw[qeK,show pkL (some 1) (some 2) us=_ from pO];have s8:=qF (Sr H7) (o:=.lst (((List.range m).map fun i=>us.getD (2*i+true.toNat) 0).map V.ref)) bc;have eO:upd H7 ol (.lst (((List.range m).map fun i=>us.getD (2*i+true.toNat) 0).map V.ref)) ol=some (.lst (((List.range m).map fun i=>us.getD (2*i+true.toNat) 0).map V.ref)):=qc;generalize upd H7 ol (.lst (((List.range m).map fun i=>us.getD (2*i+true.toNat) 0).map V.ref))=H8 at s8 eO;show .inl ⟨⟨_,.of eO⟩,jJ (xs:=((List.range m).map fun i=>us.getD (2*i+true.toNat) 0).map V.ref) (fun i B G=>L2.Same H8 G/\∃ A:LI,B=A.map V.ref/\All2 (fun t (ab:Str×Str)=>G t=some (.tup [.str ab.1,.str ab.2])) A ((List.range i).map fun i=>(rA rg (2*i+1),rA rg (2*i)))) ⟨fun c o e=>e,[],rfl,.nil⟩ (fun i B G _ hp=>.of (hp.1 _ _ eO)) (fun i y B G hy hp=>?_) fun B G hp=>?_⟩
    .obtain⟨D,A,rfl,s⟩:=hp;have ak:A.length=i:=by rw[s.len,ya,Yk]
     rw[yd,yd] at hy;obtain⟨t,ht,rfl⟩:=yn.mp hy;obtain⟨a,Y,rfl⟩:=yn.mp ht;have bh:=yV.mp (ye Y);have ay:i<m:=by have:=(yc.mp Y).1;rwa[Yk] at this
     have as:a=i:=by rw[X8 ay] at Y;show(ym Y).symm
     subst as;have ea:=D _ _ (s8 _ _ (s7 _ _ (ac (k:=2*a+1) (by lk))));unfold rT at ea;rw[qcE] at ea;apply qaC ?_;apply⟨1,rfl,?_⟩;apply⟨rfl,_,_,_,rfl,SqT.of ea,fun t ht=>?_⟩;have sg:=qF (Sr G) (o:=.tup [.str (rA rg (2*a+1)),.str (rA rg (2*a))]) ht;show⟨by rw[ya];show qi (by lk),D.trans sg,A++[t],by rw[yE];rfl,?_⟩;rw[xR,yE];show All2.snoc (s.mono fun _ _ e=>sg _ _ e) qc
    .obtain⟨D,A,rfl,s⟩:=hp;rw[ya,ya,Yk] at s;have ak:A.length=m:=by rw[s.len,ya,Yk]
     show⟨by rw[ya];show yP (qi (by lk)),fun o ho=>?_⟩;have s9:=qF (Sr G) (o:=.lst (A.map V.ref)) ho;have eo:upd G o (.lst (A.map V.ref)) o=some (.lst (A.map V.ref)):=qc;generalize upd G o (.lst (A.map V.ref))=H9 at s9 eo;have bg:L2.Same H6 H9:=((s7.trans s8).trans D).trans s9;apply⟨by show 4<=sizeLine;decide,fun t ht=>?_⟩;have aa:=qF (Sr H9) (o:=.tup [.ref n,.ref l,.ref r,.ref o]) ht;have g:=bg.trans aa;apply q t n l r o ss rg m us _ A _ (fun c o hc e=>g _ _ (s6 _ _ (ar c o hc e))) (W.same (s6.trans g)) qc (g _ _ (s6 _ _ au)) hO R (ag.same g) (ax.same ((s8.trans D).trans (s9.trans aa))) (PL.same ⟨eo,s.mono fun _ _ e=>s9 _ _ e⟩ aa)
theorem Kg:FnScope ["_law_names_here","_law_unlike_here","_law_one","_law_part","_law_row","_law_steps","_law_k","_law_middle","_law_at_here"] ["_law_names_here","_law_unlike_here","_law_one","_law_part"] (qg qI):=fS
structure PtK(ss:LS)(f g:Str->Option Str)(wd:Str)(Yw:LS)(c:Nat):Prop where
 nd:Yw.Nodup
 inn:∀ x∈Yw,x∈ss
 two:2<=Yw.length
 kind:(wd="row"/\c+1=Yw.length/\ss.idxOf (rA Yw 0)<=ss.idxOf (rA Yw (Yw.length-1)))\/(wd="ring"/\c=Yw.length/\4<=Yw.length/\(∀ x∈Yw,ss.idxOf (rA Yw 0)<=ss.idxOf x)/\ss.idxOf (rA Yw 1)<=ss.idxOf (rA Yw (Yw.length-1)))
 st:∀ k,k<c->Dx f g (rA Yw k) (rA Yw (nxK Yw.length k))=true
noncomputable def sT(Yw:LS)(k:Nat):Str×Str:=(rA Yw k,rA Yw (nxK Yw.length k))
inductive spPr(vs:List V)(H:Hp)(Q:VK)(E:XK):Prop|mk (n r d t l:Addr) (ss:LS) (ws:LI) (tps qs rs:LP) (wd:Str) (Yw:LS) (c:Nat) (_:vs=[.ref n,.ref r,.ref d,.ref t]) (_:H n=some (.lst (ss.map V.str))) (_:PL H r ws (unL tps (pt qs) (pt rs))) (_:H d=some (.dK (prK qs))) (_:H t=some (.tup [.str wd,.ref l])) (_:H l=some (.lst (Yw.map V.str))) (_:DT ss tps) (_:Two ss (pt qs) (pt rs)) (_:PF tps (pt qs)) (_:PF tps (pt rs)) (_:PtK ss (pt qs) (pt rs) wd Yw c) (_:∀ H',L2.Same H H'->Q (.int (c:Int)) H')
theorem vEqB{a b:Bool}{Q:VK}(q:Q (.bl (a==b)) H):qe7 K (.bl a) (.bl b) H Q:=.inl (.inl (.inl ⟨rfl,rfl,q⟩))
theorem un_in{f:Str->Option Str}(T:Two ss f g)(pf:PF tps f)(d:PF tps g){a:Str}(h:Dx f g a b=true):(a,b)∈unL tps f g\/(b,a)∈unL tps f g:=by
 have c:(a,b)∈tps\/(b,a)∈tps:=by
  rcases dx_iff.mp h with⟨k,_⟩ | ⟨_,k⟩
  .show pf.tie _ _ k
  .show d.tie _ _ k
 show c.imp (fun z=>yp.mpr ⟨z,h⟩) fun z=>yp.mpr ⟨z,T.sym h⟩
theorem PtK.alt{f:Str->Option Str}{j:Str}{c:Nat}(h:PtK ss f g j Yw c)(T:Two ss f g){k:Nat}(l:0<k)(i:k<c):f (rA Yw k)=some (rA Yw (k-1))↔¬ f (rA Yw k)=some (rA Yw (nxK Yw.length k)):=by
 have hc:c<=Yw.length/\(c=Yw.length->4<=Yw.length):=by
  rcases h.kind with⟨_,h1,_⟩ | ⟨_,h1,d,_⟩
  .show⟨by lk,fun e=>by lk⟩
  .show⟨by lk,fun _=>d⟩
 have a:=h.st (k-1) (by lk);have b:nxK Yw.length (k-1)=k:=by unfold nxK;rw[yB (by lk)];lk
 rw[b] at a;show T.alt (T.sym a) (h.st k i) fun e=>?_;have:=jM h.nd (by lk) (qd7 (by lk)) e;unfold nxK at this;split at this<;>lk
theorem ok_prt(F:Fun K "_law_part_right" "_law_part_right" qI f fd)(T:Txt K mg cc cw):FnOk P w K mg base CX0 1 f fd ["_law_names_here","_law_unlike_here","_law_one","_law_part"] spPr:=by
 show F.ok Kg fun _ _ _ _ H vs Q E hr h=>?_
 .obtain⟨n,r,d,t,l,ss,ws,tps,qs,rs,wd,Yw,c,rfl,hn,hR,hd,ht,hl,hD,T2,pf,pg,O,q⟩:=h;have g:=zT hr;have h2:=O.two;have ch:Yw.length<=14:=yi (ji O.nd O.inn) T2.few;have cb:wd="row"\/wd="ring":=O.kind.imp (fun h=>h.1) (fun h=>h.1);obtain⟨TC6,U⟩:∃ zt:TS,zt=fun D S J=>(∀ u H',Q u H'->D.rt u H')/\∃(m:Addr) (us:LI) (y6 y7 y8:Option V),S=[some (.ref n),some (.ref r),some (.ref d),some (.ref t),some (.ref l),some (.ref m),y6,y7,y8]/\L2.Same H J/\PL J m us ((List.range c).map (sT Yw)):=⟨_,rfl⟩;obtain⟨TC101,hTC101⟩:∃ zt:TS,zt=fun D S G=>∃(i:Nat) (m:Addr) (us:LI) (y7 y8:Option V),i<c/\S=[some (.ref n),some (.ref r),some (.ref d),some (.ref t),some (.ref l),some (.ref m),some (.int (i:Int)),y7,y8]/\L2.Same H G/\PL G m us ((List.range c).map (sT Yw))/\∀(y:Option V) (G':Hp),L2.Same G G'->D.nx [some (.ref n),some (.ref r),some (.ref d),some (.ref t),some (.ref l),some (.ref m),some (.int (i:Int)),y,y8] G':=⟨_,rfl⟩;have ci:c<=14:=by rcases O.kind with⟨_,h1,_⟩ | ⟨_,h1,_⟩<;>lk
  have stA:∀{J:Hp} {m:Addr} {us:LI},PL J m us ((List.range c).map (sT Yw))->∀{i:Nat},i<c->∃ u,atI (us.map V.ref) (i:Int)=some (.ref u)/\J u=some (.tup [.str (rA Yw i),.str (rA Yw (nxK Yw.length i))]):=fun{J m us} I {i} hi=>by
   have M:us.length=c:=by rw[I.2.len,ya,Yk]
   obtain⟨u,bi⟩:∃ u,us[i]?=some u:=⟨_,yb (by lk)⟩;show⟨u,qw (by rw[yd,bi];rfl),I.2.at_ i u (sT Yw i) bi (by rw[yd,X8 hi];rfl)⟩
  show⟨_,(qb (qG (PW.pt (zl (qO (qN (qj (zG (K:=K) rfl) rfl T.b_isinstance YC (qa (pv 3) (qa (jt (v:=.ty "tuple") rfl T.b_tuple kj rfl) qd))))) (zl (qk (zq (K:=K) rfl g) (qj (jw (K:=K) rfl) rfl T.b_len Yy (qa (pv 3) qd)) qe (qx _)) (jY (qO (qN (qj (zG (K:=K) rfl) rfl T.b_isinstance YC (qa (qq (qr (K:=K) rfl g) (pv 3) qe (fun _ _=>rfl)) (qa (jt (v:=.ty "list") rfl T.b_list xv rfl) qd))))))))) (qf (qt zA)) qv)
 (qb (qG (qk (k_notinT (K:=K) rfl g) (qq (qr (K:=K) rfl g) (pv 3) qe (fun _ _=>rfl)) (qV (qa qZ (qa qZ qd))) (by with_unfolding_all rfl)) (qf (qt zA)) qv)
 (qb (qp (i:=4) Kg.nd rfl (Xw rfl) (qq (qr (K:=K) rfl g) (pv 3) qe (fun _ _=>rfl)))
 (qb (qG (PW.pt (zl (qk qdz (qj (jw (K:=K) rfl) rfl T.b_len Yy (qa (pv 4) qd)) qe (qx _)) (zl (qk (zq (K:=K) rfl g) (qj (qeG) rfl T.b_len Yy (qa (je (qeF (K:=K) rfl rfl) rfl T.b_set boot_set (qa (pv 4) qd)) qd)) (qj (jw (K:=K) rfl) rfl T.b_len Yy (qa (pv 4) qd)) (qx _)) (jY (qk (zq (K:=K) rfl g) (j7 (sc:=qg qI) (XN:=["_law_names_here","_law_unlike_here","_law_one","_law_part","_law_row","_law_steps","_law_k","_law_middle","_law_at_here"]) ["_law_name","_law_names_here"] 1 [0] rfl rfl rfl (by room) rfl (by room)
  (qM (K:=K) rfl (pv 4)) (fun _ _ _ _=>(qu (i:=0) (show(["_law_name","_law_names_here"]:LS).Nodup by room) rfl (yI rfl))) jc
  (fun _ _ _ _=>(qah (qk (jH (K:=K) rfl g) (pv 0) (pv 1) (by with_unfolding_all rfl))))
  (fun _ _ _ _=>(pv 0))) (qK qd) (qx _)))))) (qf (qt zA)) qv)
 (qb (qaz (sc:=qg qI) (XN:=["_law_names_here","_law_unlike_here","_law_one","_law_part","_law_row","_law_steps","_law_k","_law_middle","_law_at_here"]) ["_law_k","_law_row"] 1 [4] rfl rfl rfl (by room) rfl (by room) (i:=5) Kg.nd rfl rfl
  (jd rfl T.b_range (qa (qA qcL (qj (jw (K:=K) rfl) rfl T.b_len Yy (qa (pv 4) qd)) qe) qd)) (fun _ _ _ _=>(qu (i:=0) (show(["_law_k","_law_row"]:LS).Nodup by room) rfl (yI rfl))) jc
  (fun _ _ _ _=>jv)
  (fun _ _ _ _=>(qV (qa (qq (qr (K:=K) rfl g) (pv 1) (pv 0) (fun _ _=>rfl)) (qa (qq (qr (K:=K) rfl g) (pv 1) (qA (jT (K:=K) rfl) (pv 0) qe) (fun _ _=>rfl)) qd)))))
 (qb (qG (qk (zy (K:=K) rfl g) (qq (qr (K:=K) rfl g) (pv 3) qe (fun _ _=>rfl)) qZ (qx _)) (qf (q9 (qb2 (K:=K) rfl yO Ye Yg qL (pv 5) (qa (qV (qa (qq (qr (K:=K) rfl g) (pv 4) (qcn qaQ qe) (fun _ _=>rfl)) (qa (qq (qr (K:=K) rfl g) (pv 4) qe (fun _ _=>rfl)) qd))) qd)))) qv)
 (qby TC6 (qb (qU yW rfl (jd rfl T.b_range (qa (qj (jw (K:=K) rfl) rfl T.b_len Yy (qa (pv 5) qd)) qd)) (qu (i:=6) Kg.nd rfl (yI rfl))
 (qb (qG (PW.pt (zC (qk (jH (K:=K) rfl g) (qq (qr (K:=K) rfl g) (pv 5) (pv 6) (fun _ _=>rfl)) (pv 1) (by with_unfolding_all rfl)) (zj (qk (jH (K:=K) rfl g) (qeD (K:=K) rfl (qq (qr (K:=K) rfl g) (pv 5) (pv 6) (fun _ _=>rfl)) (jR (qcn qaQ qe))) (pv 1) (by with_unfolding_all rfl))))) (qf (qt zA)) qv)
 (qby TC101 (qb (qp (i:=7) Kg.nd rfl (yI rfl) (qac (qfu g) (pv 2) (qq (qr (K:=K) rfl g) (qq (qr (K:=K) rfl g) (pv 5) (pv 6) (fun _ _=>rfl)) qe (fun _ _=>rfl)) ⟨rfl,rfl,rfl,rfl⟩))
 (qf (qG (PW.pt (zC (qk qbp (pv 6) qe (qx _)) (zj (qk (zy (K:=K) rfl g) (jo (zy (K:=K) rfl g) (pv 7) (qq (qr (K:=K) rfl g) (qq (qr (K:=K) rfl g) (pv 5) (pv 6) (fun _ _=>rfl)) qe (fun _ _=>rfl)) (qx _)) (jo (zy (K:=K) rfl g) (pv 7) (qq (qr (K:=K) rfl g) (qq (qr (K:=K) rfl g) (pv 5) (qA qcL (pv 6) qe) (fun _ _=>rfl)) qe (fun _ _=>rfl)) (qx _)) (qx _))))) (qf (qt zA)) qv))) ?cut101)))
 (qb (qaz (sc:=qg qI) (XN:=["_law_names_here","_law_unlike_here","_law_one","_law_part","_law_row","_law_steps","_law_k","_law_middle","_law_at_here"]) ["_law_name","_law_names_here"] 1 [0] rfl rfl rfl (by room) rfl (by room) (i:=8) Kg.nd rfl rfl
  (qM (K:=K) rfl (pv 4)) (fun _ _ _ _=>(qu (i:=0) (show(["_law_name","_law_names_here"]:LS).Nodup by room) rfl (yI rfl))) jc
  (fun _ _ _ _=>jv)
  (fun _ _ _ _=>(qb2 (K:=K) rfl yO Xp PySem.F.type_list_index (qdQ (K:=K) rfl) (pv 1) (qa (pv 0) qd))))
 (qb (qG (PW.pt (zC (qk (zy (K:=K) rfl g) (qq (qr (K:=K) rfl g) (pv 3) qe (fun _ _=>rfl)) qZ (qx _)) (zj (PW.pt (zl (qk qdz (qj (jw (K:=K) rfl) rfl T.b_len Yy (qa (pv 4) qd)) qe (qx _)) (zl (qk (zq (K:=K) rfl g) (qj (k_minF (K:=K) rfl rfl) rfl T.b_min boot_min (qa (pv 8) qd)) (qq (qr (K:=K) rfl g) (pv 8) qe (fun _ _=>rfl)) (qx _)) (jY (qk qbp (qq (qr (K:=K) rfl g) (pv 8) qe (fun _ _=>rfl)) (qq (qr (K:=K) rfl g) (pv 8) (qcn qaQ qe) (fun _ _=>rfl)) (qx _))))))))) (qf (qt zA)) qv)
 (qb (qG (PW.pt (zC (qk (zy (K:=K) rfl g) (qq (qr (K:=K) rfl g) (pv 3) qe (fun _ _=>rfl)) qZ (qx _)) (zj (qk qbp (qq (qr (K:=K) rfl g) (pv 8) qe (fun _ _=>rfl)) (qq (qr (K:=K) rfl g) (pv 8) (qcn qaQ qe) (fun _ _=>rfl)) (qx _))))) (qf (qt zA)) qv)
 (qf (qt (qj (jw (K:=K) rfl) rfl T.b_len Yy (qa (pv 5) qd)))))))) ?cut6))))))),?_⟩
  case cut101 =>
   intro D S G hh;rw[hTC101] at hh;obtain⟨i,m,us,y7,y8,L,rfl,s,I,nx⟩:=hh;obtain⟨u,au,eu⟩:=stA I L;apply qb9 ?_;apply⟨d,rfl,.inl ⟨_,.inl (s _ _ hd)⟩,?_⟩;apply .inl (zd I.1 au ?_);apply .inl (zo eu rfl ?_);show⟨_,DGet.k (k:=Sum.inr (rA Yw i)) (s _ _ hd),?_⟩;rw[zH];apply qE (fun h0=>?_) fun h0=>?_
   .have bt:0<i:=by have:=yk h0;lk
    obtain⟨u',bn,bp⟩:=stA I (i:=i-1) (by lk);have e1:(i:Int)-1=((i-1:Nat):Int):=by lk
    apply .inl (zd I.1 au ?_);apply .inl (zo eu rfl ?_);show qek ?_;apply .inl (zd I.1 (by rw[e1];show bn) ?_);apply .inl (zo bp rfl ?_);show qek ?_;show vEqB ?_;have al:=O.alt T2 bt L
    have ef:(decide (pt qs (rA Yw i)=some (rA Yw (nxK Yw.length i)))==decide (pt qs (rA Yw i)=some (rA Yw (i-1))))=false:=by
     by_cases Z:pt qs (rA Yw i)=some (rA Yw (nxK Yw.length i))
     .rw [yD Z,yl fun z=>al.mp z Z];rfl
     .rw [yl Z,yD (al.mpr Z)];rfl
    rw[ef];show⟨_,rfl,qE (fun h=>by cases h) fun _=>?_⟩;apply nx _ G (Sr G)
   .show yq ?_;apply nx _ G (Sr G)
  case cut6 =>
   intro D S J hh;rw[U] at hh;obtain⟨qD,m,us,y6,y7,y8,rfl,sJ,I⟩:=hh;have M:us.length=c:=by rw[I.2.len,ya,Yk]
   apply ze I.1 ?_;rw[ya,M];apply⟨_,rfl,by lk,by lk,?_⟩;show zZ (fun i S G=>L2.Same J G/\∃ y6 y7,S=[some (.ref n),some (.ref r),some (.ref d),some (.ref t),some (.ref l),some (.ref m),y6,y7,y8]) ⟨L2.Same.refl J,_,_,rfl⟩ (fun i S G hi C=>?_) fun S G C=>?_
   .obtain⟨s,cg,av,rfl⟩:=C;have L:i<c:=by lk
    have ac:=I.same s;obtain⟨u,au,eu⟩:=stA ac L;have e0:(0:Int)+(i:Int)=(i:Int):=by lk
    have bc:=hR.same (sJ.trans s)
    have done:∀(D':Ends) (G':Hp),L2.Same G G'->(∀ S H2,(L2.Same J H2/\∃ y6 y7,S=[some (.ref n),some (.ref r),some (.ref d),some (.ref t),some (.ref l),some (.ref m),y6,y7,y8])->D'.nx S H2)->TC101 D' [some (.ref n),some (.ref r),some (.ref d),some (.ref t),some (.ref l),some (.ref m),some (.int (i:Int)),av,y8] G':=fun D' G' sg k=>by
     rw[hTC101];show⟨i,m,us,av,y8,L,rfl,(sJ.trans s).trans sg,ac.same sg,fun y Y s2=>k _ _ ⟨(s.trans sg).trans s2,_,_,rfl⟩⟩
    apply .inl (zd ac.1 (by rw[e0];show au) ?_);apply qde bc eu ?_;ext;by_cases ao:(rA Yw i,rA Yw (nxK Yw.length i))∈unL tps (pt qs) (pt rs)
    .show qE (fun h=>by rw[yD ao] at h;cases h) fun _=>?_;show yq ?_;ext;rw[e0];show done _ G (Sr G) fun _ _ h=>h
    .show qE (fun _=>?_) fun h=>absurd (by rw[yl ao];rfl) h;apply .inl (zd ac.1 (by rw[e0];show au) ?_);apply⟨1,rfl,?_⟩;apply⟨rfl,_,_,_,rfl,SqT.of eu,fun tr bz=>?_⟩;have sg:=qF (Sr G) (o:=.tup [.str (rA Yw (nxK Yw.length i)),.str (rA Yw i)]) bz;have az:upd G tr (.tup [.str (rA Yw (nxK Yw.length i)),.str (rA Yw i)]) tr=some (.tup [.str (rA Yw (nxK Yw.length i)),.str (rA Yw i)]):=qc;generalize upd G tr (.tup [.str (rA Yw (nxK Yw.length i)),.str (rA Yw i)])=Y at sg az;apply qde (bc.same sg) az ?_;rw[yD ((un_in T2 pf pg (O.st i L)).resolve_left ao)];apply yq ?_;ext;rw[e0];show done _ Y sg fun _ _ h=>h
   .obtain⟨s,cg,av,rfl⟩:=C;have as:=sJ.trans s;ext;have W:=as _ _ hl;have bg:=as _ _ hn;show .inl ⟨⟨_,.of W⟩,jJ (xs:=Yw.map V.str) (fun i N Y=>Y=G/\N=((Yw.take i).map fun y=>((ss.idxOf y:Nat):Int)).map V.int) ⟨rfl,rfl⟩ (fun i N Y _ C=>by rw[C.1];show .of W) (fun i y N Y hy C=>?_) fun N Y C=>?_⟩
    .obtain⟨rfl,rfl⟩:=C;rw[yd] at hy;obtain⟨x,Z,rfl⟩:=yn.mp hy;have cj:i<Yw.length:=(yc.mp Z).1;apply qaC ?_;apply⟨.inl ⟨rfl,_,.of bg⟩,?_⟩;apply⟨n,ss,x,rfl,rfl,SqL.of bg,O.inn x (ye Z),?_⟩;show⟨by rw[ya,ya,yL];show qi (by lk),rfl,?_⟩;rw[yR,Z,yE,yE];rfl
    .obtain⟨rfl,rfl⟩:=C;rw[show(Yw.map V.str).length=Yw.length from ya ..,Yc];show⟨by rw[ya,ya];show yP (qi (by lk)),fun al B=>?_⟩;have R:=qF (Sr Y) (o:=.lst ((Yw.map fun y=>((ss.idxOf y:Nat):Int)).map V.int)) B;have A:upd Y al (.lst ((Yw.map fun y=>((ss.idxOf y:Nat):Int)).map V.int)) al=some (.lst ((Yw.map fun y=>((ss.idxOf y:Nat):Int)).map V.int)):=qc;generalize upd Y al (.lst ((Yw.map fun y=>((ss.idxOf y:Nat):Int)).map V.int))=G3 at R A;have ag:=as.trans R;have aq:=ag _ _ ht;have ad:=ag _ _ hl;have ba:=(I.same s).same R
     have ae:∀{k:Nat},k<Yw.length->((Yw.map fun y=>((ss.idxOf y:Nat):Int)).map V.int)[k]?=some (.int ((ss.idxOf (rA Yw k):Nat):Int)):=fun{k} hk=>by
      rw[yd,yd,za hk];rfl
     have bj:atI ((Yw.map fun y=>((ss.idxOf y:Nat):Int)).map V.int) (-((1:Nat):Int))=some (.int ((ss.idxOf (rA Yw (Yw.length-1)):Nat):Int)):=by
      show qaN (j:=1) (by decide) (by rw[ya,ya];lk) ?_;rw[ya,ya];show ae (by lk)
     apply .inl (zo aq rfl ?_);apply qe8 ?_;ext;rcases O.kind with⟨rfl,hc,ap⟩ | ⟨rfl,hc,h4,ak,ap⟩
     .show qE (fun h=>absurd (yk h) (by decide)) fun _=>?_;show yq ?_;apply .inl (zo aq rfl ?_);apply qe8 ?_;apply qE (fun _=>?_) fun h=>absurd (yD rfl) h;apply .inl (zd A (qw (j:=0) (ae (by lk))) ?_);apply⟨1,rfl,?_⟩;show .inl (zd A bj ?_);apply qE (fun h=>absurd (yk h) (by lk)) fun _=>?_;apply ze ba.1 ?_;rw[ya,M];apply qD _ _ (q _ ag)
     .show qE (fun _=>?_) fun h=>absurd (yD rfl) h;apply ze ad ?_;rw[ya];apply qE (fun h=>absurd (yk h) (by lk)) fun _=>?_;ext
      obtain⟨x0,X,an⟩:∃ x0 X,Yw=x0::X:=by
       match Yw,h2 with
       | x0::X,_=>show⟨x0,X,rfl⟩
      have cd:rA Yw 0=x0:=by rw[an];rfl
      show⟨al,((ss.idxOf (rA Yw 0):Nat):Int),X.map fun y=>((ss.idxOf y:Nat):Int),rfl,by rw[A,cd,an];rfl,fun j hj=>?_,?_⟩
      .obtain⟨y,hy,rfl⟩:=yQ.mp hj;have:=ak y (by rw[an];show yu _ hy);lk
      apply .inl (zd A (qw (j:=0) (ae (by lk))) ?_);show .inl ⟨rfl,rfl,?_⟩;have e9:(if true=true then !eqV (V.int ((ss.idxOf (rA Yw 0):Nat):Int)) (V.int ((ss.idxOf (rA Yw 0):Nat):Int)) else eqV (V.int ((ss.idxOf (rA Yw 0):Nat):Int)) (V.int ((ss.idxOf (rA Yw 0):Nat):Int)))=false:=by simp[eqV]
      rw[e9];apply yq ?_;apply .inl (zd A (qw (j:=1) (ae (by lk))) ?_);apply⟨1,rfl,?_⟩;show .inl (zd A bj ?_);apply qE (fun h=>absurd (yk h) (by lk)) fun _=>?_;apply .inl (zo aq rfl ?_);apply qe8 ?_;apply qE (fun h=>absurd (yk h) (by decide)) fun _=>?_;show yq ?_;apply ze ba.1 ?_;rw[ya,M];apply qD _ _ (q _ ag)
  apply qaB (.inl (.tup ht)) rfl (jP K "tuple" (by simp) "tuple" (by simp)) ?_;apply yq ?_;apply qe1 ht ?_;apply .inl ⟨rfl,rfl,?_⟩;show⟨_,rfl,qE (fun h=>by cases h) fun _=>?_⟩;apply .inl (zo ht rfl ?_);apply qaB (.inl (.lst hl)) rfl (jP K "list" (by simp) "list" (by simp)) ?_;apply yq ?_;apply .inl (zo ht rfl ?_);apply⟨by show 2<=sizeLine;decide,fun tp bw=>?_⟩;have s0:=qF (Sr H) (o:=.tup [.str "row",.str "ring"]) bw;have ay:upd H tp (.tup [.str "row",.str "ring"]) tp=some (.tup [.str "row",.str "ring"]):=qc;generalize upd H tp (.tup [.str "row",.str "ring"])=H0 at s0 ay;show⟨tp,_,fun z=>eqV z (.str wd),1,rfl,SqT.of ay,by decide,fun z hz=>?_,?_⟩
  .simp only[yA,yS,YN] at hz;rcases hz with rfl | rfl<;>show EqD.flat rfl rfl
  have ew:([V.str "row",V.str "ring"].any fun z=>eqV z (.str wd))=true:=by
   rcases cb with rfl | rfl<;>rfl
  rw[ew];apply yq ?_;apply .inl (zo (s0 _ _ ht) rfl ?_);ext;have bd:=s0 _ _ hl;show ze bd ?_;rw[ya];apply qE (fun h=>by simp at h;lk) fun _=>?_;apply⟨l,Yw,rfl,SqL.of bd,O.nd,by lk,fun R bv=>?_⟩;have s1:=s0.trans (qF (Sr H0) (o:=qdT R Yw) bv);have e1:upd H0 R (qdT R Yw) R=some (qdT R Yw):=qc;generalize upd H0 R (qdT R Yw)=H1 at s1 e1;apply⟨R,Yw,rfl,e1,?_⟩;apply ze (s1 _ _ hl) ?_;rw[ya];show .inl ⟨rfl,rfl,?_⟩;have e0:(if true=true then !eqV (V.int (Yw.length:Int)) (V.int (Yw.length:Int)) else eqV (V.int (Yw.length:Int)) (V.int (Yw.length:Int)))=false:=by simp[eqV]
  rw[e0];apply yq ?_;ext;have be:=s1 _ _ hl;have bu:=s1 _ _ hn;show .inl ⟨⟨_,.of be⟩,jJ (xs:=Yw.map V.str) (fun i N G=>G=H1/\N=[]) ⟨rfl,rfl⟩ (fun i N G _ C=>by rw[C.1];show .of be) (fun i y N G hy C=>?_) fun N G C=>?_⟩
  .obtain⟨rfl,rfl⟩:=C;rw[yd] at hy;obtain⟨x,Z,rfl⟩:=yn.mp hy;apply qd5 bu ?_;rw[yD (O.inn x (ye Z))];show⟨_,rfl,qE (fun h=>by cases h) fun _=>⟨rfl,rfl⟩⟩
  obtain⟨rfl,rfl⟩:=C;show⟨yU _,fun e br=>?_⟩;have s2:=s1.trans (qF (Sr G) (o:=.lst []) br);have ee:upd G e (.lst []) e=some (.lst []):=qc;generalize upd G e (.lst [])=H2 at s2 ee;apply⟨by show 0<=sizeLine;decide,fun e2 aj=>?_⟩;have s3:=s2.trans (qF (Sr H2) (o:=.lst []) aj);have aw:=qF (Sr H2) (o:=.lst []) aj _ _ ee;have ax:upd H2 e2 (.lst []) e2=some (.lst []):=qc;generalize upd H2 e2 (.lst [])=H3 at s3 aw ax;show qdb aw ax ?_;show⟨_,rfl,qE (fun h=>by cases h) fun _=>?_⟩;have ad:=s3 _ _ hl;apply ze ad ?_;rw[ya];ext;obtain⟨p,bq⟩:∃ p,p+1=Yw.length:=⟨Yw.length-1,by lk⟩;have bo:(Yw.length:Int)-1=(p:Int):=by lk
  rw[bo];show⟨_,rfl,by lk,by lk,?_⟩;rw[Yj];show zc (lo:=0) (n:=p) (fun i N G=>i<=p/\L2.Same H3 G/\∃ us:LI,N=us.map V.ref/\All2 (fun t (ab:Str×Str)=>G t=some (.tup [.str ab.1,.str ab.2])) us ((List.range i).map (sT Yw))) ⟨yU _,fun c o e=>e,[],rfl,.nil⟩ (fun i N G hi hs=>?_) fun N G hs=>?_
  .obtain⟨_,s,us,rfl,B⟩:=hs;have M:us.length=i:=by rw[B.len,ya,Yk]
   have W:=s _ _ ad;apply qaC ?_;apply .inl (zd W (v:=.str (rA Yw i)) ?_ ?_)
   .rw [kN];show qw ?_;rw[yd,za (by lk)];rfl
   apply .inl (zd W (v:=.str (rA Yw (nxK Yw.length i))) ?_ ?_)
   .rw [show(0:Int)+(i:Int)+1=((i+1:Nat):Int) by lk];show qw ?_;rw[yd,show nxK Yw.length i=i+1 from yB (by lk),za (by lk)];rfl
   apply⟨by show 2<=sizeLine;decide,fun t ht=>?_⟩;have sg:=qF (Sr G) (o:=.tup [.str (rA Yw i),.str (rA Yw (nxK Yw.length i))]) ht;show⟨by rw[ya];show qi (by lk),by lk,s.trans sg,us++[t],by rw[yE];rfl,?_⟩;rw[xR,yE];show All2.snoc (B.mono fun _ _ e=>sg _ _ e) qc
  .obtain⟨_,s,us,rfl,B⟩:=hs;have M:us.length=p:=by rw[B.len,ya,Yk]
   show⟨by rw[ya];show yP (qi (by lk)),fun m bh=>?_⟩;have ar:=qF (Sr G) (o:=.lst (us.map V.ref)) bh;have aa:upd G m (.lst (us.map V.ref)) m=some (.lst (us.map V.ref)):=qc;generalize upd G m (.lst (us.map V.ref))=H6 at ar aa;have af:=s3.trans (s.trans ar);have bb:PL H6 m us ((List.range p).map (sT Yw)):=⟨aa,B.mono fun _ _ e=>ar _ _ e⟩;have bf:=af _ _ hl
   have ce:∀{b:Addr} {o:HO},H b=some o->b≠m:=fun e z=>by
    have:=(s3.trans s) _ _ e;rw[z,bh] at this;cases this
   apply .inl (zo (af _ _ ht) rfl ?_);apply qe8 ?_;ext;rcases O.kind with⟨rfl,hc,ap⟩ | ⟨rfl,hc,h4,ak,ap⟩
   .show qE (fun h=>absurd (yk h) (by decide)) fun _=>?_;ext;rw[U];show⟨fun _ _ h=>h,m,us,_,_,_,rfl,af,by rw[show c=p by lk];show bb⟩
   .show qE (fun _=>?_) fun h=>absurd (yD rfl) h;apply⟨.inl ⟨rfl,_,SqL.of aa⟩,?_⟩;apply⟨1,rfl,?_⟩;show .inl (zd bf (v:=.str (rA Yw p)) ?_ ?_)
    .show qaN (j:=1) (by decide) (by rw[ya];lk) ?_;rw[ya,yd,show Yw.length-1=p by lk,za (by lk)];rfl
    apply .inl (zd bf (v:=.str (rA Yw 0)) (qw (j:=0) (by rw[yd,za (by lk)];rfl)) ?_);apply⟨by show 2<=sizeLine;decide,fun tq bx=>?_⟩;have s7:=qF (Sr H6) (o:=.tup [.str (rA Yw p),.str (rA Yw 0)]) bx;have am:upd H6 tq (.tup [.str (rA Yw p),.str (rA Yw 0)]) tq=some (.tup [.str (rA Yw p),.str (rA Yw 0)]):=qc;generalize upd H6 tq (.tup [.str (rA Yw p),.str (rA Yw 0)])=H7 at s7 am;have cf:=af.trans s7;have ai:=s7 _ _ aa;apply⟨m,_,_,rfl,rfl,ai,by rw[ya];show qi (by lk),?_⟩;rw[show(us.map V.ref)++[V.ref tq]=(us++[tq]).map V.ref by rw[yE];rfl];have bm:∀{b:Addr} {xs:List V},H7 b=some (.tup xs)->b≠m:=fun z e=>by rw[e,ai] at z;cases z
    ext;rw[U];show⟨fun _ _ h=>h,m,us++[tq],_,_,_,rfl,fun b o e=>by rw[qh (ce e)];show cf _ _ e,qc,?_⟩;rw[show c=p+1 by lk,xR,show(List.range p++[p]).map (sT Yw)=(List.range p).map (sT Yw)++[sT Yw p] by rw[yE];rfl];have ca:All2 (fun t (ab:Str×Str)=>upd H7 m (.lst ((us++[tq]).map V.ref)) t=some (.tup [.str ab.1,.str ab.2])) us ((List.range p).map (sT Yw)):=bb.2.mono fun a q z=>by rw[qh (bm (s7 _ _ z))];show s7 _ _ z
    show All2.snoc ca ?_;rw[qh (bm am)];unfold sT;rw[show nxK Yw.length p=0 from yG bq];show am
noncomputable def stN(p:Str×LS):Nat:=if p.1="ring" then p.2.length else p.2.length-1
theorem ring_row:¬ ("row":Str)="ring":=by decide
section
variable{ss:LS}{f g:Str->Option Str}
theorem Two.ptk(T:Two ss f g):∀ p∈qaO ss f g,PtK ss f g p.1 p.2 (stN p):=fun p u=>by
 have A:=T.ptA;unfold qaO at u;rcases yH.mp u with h | h
 .obtain⟨Yw,n,rfl⟩:=yQ.mp h;obtain⟨R,r⟩:=A.row Yw n;have D:=R.two;have e:stN ("row",Yw)=Yw.length-1:=yB ring_row;show PtK ss f g "row" Yw (stN ("row",Yw));rw[e];show⟨R.nd,R.inn,D,.inl ⟨rfl,by lk,?_⟩,fun k s=>?_⟩
  .obtain⟨t,v⟩:∃ t,Yw[Yw.length-2]?=some t:=⟨_,yb (by lk)⟩;have hl:=za (rg:=Yw) (k:=Yw.length-1) (by lk);show r _ (qck (by lk)) (T.one (R.adj _ t ⟨Yw.length-2,.inr ⟨v,by rw[show Yw.length-2+1=Yw.length-1 by lk];show hl⟩⟩) fun y I=>R.lst _ t y hl v I)
  .have x:nxK Yw.length k=k+1:=yB (by lk);show Dx f g (rA Yw k) (rA Yw (nxK Yw.length k))=true;rw[x];show R.adj _ _ ⟨k,.inl ⟨za (by lk),za (by lk)⟩⟩
 .obtain⟨Yw,n,rfl⟩:=yQ.mp h;obtain⟨R,m,z,b,c,K,o,h1,hl⟩:=A.ring Yw n;have E:=R.four;have e:stN ("ring",Yw)=Yw.length:=yG rfl;show PtK ss f g "ring" Yw (stN ("ring",Yw));rw[e];have B:rA Yw 1=b:=ym ((za (by lk)).symm.trans h1);have C:rA Yw (Yw.length-1)=c:=ym ((za (by lk)).symm.trans hl);show⟨R.nd,R.inn,by show 2<=Yw.length;lk,.inr ⟨rfl,rfl,E,m,?_⟩,fun k s=>?_⟩
  .show ss.idxOf (rA Yw 1)<=ss.idxOf (rA Yw (Yw.length-1));rw[B,C]
   have k:ss.Pairwise fun a b=>ss.idxOf a<ss.idxOf b:=by
    rw[YZ];intro i j F G q;rw[T.nd.idxOf_getElem i F,T.nd.idxOf_getElem j G];show q
   have w:=k.sublist (List.filter_sublist (l:=ss) (p:=Dx f g z));have J:ss.filter (Dx f g z)=[b,c]:=o;rw[J] at w;show yP ((Y5.mp w).1 c (by simp))
  .show Dx f g (rA Yw k) (rA Yw (nxK Yw.length k))=true;by_cases d:k+1=Yw.length
   .rw [show nxK Yw.length k=0 from yG d];show R.clo _ _ (by rw[show Yw.length-1=k by lk];show za (by lk)) (za (by lk))
   .rw [show nxK Yw.length k=k+1 from yB d];have H:k<Yw.length:=s;show R.st k _ _ (za (by lk)) (za (by lk))
theorem pts_flat:((qaO ss f g).map Prod.snd).flatten=(qaD ss f g).flatten++(qar ss f g).flatten:=by
 unfold qaO;rw[yE,Xf,Xc,Xc]
 have b:∀(a:Str) (L:List (LS)),L.map (Prod.snd ∘ fun Yw=>(a,Yw))=L:=fun a L=>by
  rw[show(Prod.snd ∘ fun Yw:LS=>(a,Yw))=id from rfl,List.map_id]
 rw[b,b]
theorem Two.steps(T:Two ss f g)(a:DT ss tps)(pf:PF tps f)(c:PF tps g)(b:ps.Perm (qaO ss f g)):(ps.map stN).sum=(unL tps f g).length:=by
 rw[qdg (b.map stN),<- T.total a pf c T.ptA];unfold qaO;rw[yE,Xl,Xc,Xc];rfl
theorem perm_flat{l m:List (List α)}(p:l.Perm m):l.flatten.Perm m.flatten:=p.flatten
theorem Two.apart(T:Two ss f g)(a:ps.Perm (qaO ss f g)):((ps.map Prod.snd).flatten).Nodup:=by
 show(perm_flat (a.map Prod.snd)).nodup_iff.mpr ?_;rw[pts_flat];show T.ptA.nd
end
theorem Kb:FnScope ["_law_names_here","_law_ties","_law_pairs_here","_law_others","_law_parts","_law_one","_law_unlike_here","_law_seen","_law_many","_law_part","_law_steps","_law_firsts"] ["_law_names_here","_law_ties","_law_pairs_here","_law_others","_law_parts"] (qg qW):=fS
inductive spPs(vs:List V)(H:Hp)(Q:VK)(E:XK):Prop|mk (B:Hp) (n lt a b D:Addr) (ss:LS) (us as bs ts:LI) (tps qs rs:LP) (ps:List (Str×LS)) (_:vs=[.ref n,.ref lt,.ref a,.ref b,.ref D]) (_:H n=some (.lst (ss.map V.str))) (_:NOk ss) (_:PL H lt us tps) (_:DT ss tps) (_:PL H a as qs) (_:DP tps qs) (_:PL H b bs rs) (_:DP tps rs) (_:H D=some (.lst (ts.map V.ref))) (_:All2 (BtO B H) ts ps) (_:ps.Perm (qaO ss (pt qs) (pt rs))) (_:ps.Pairwise (fun p q=>qaE ss p<=qaE ss q)) (_:∀ H',L2.Same H H'->Q (.bl true) H')
theorem isNI{i:Int}{Q:VK}(q:Q (.bl false) H):qfL (.int i) .non H Q:=q
theorem eq_intL{b:Addr}{ns:LQ}{Q:VK}(g:H a=some (.lst (ns.map V.int)))(hb:H b=some (.lst (ns.map V.int)))(q:Q (.bl true) H):qeC K false (.ref a) (.ref b) H Q:=by
 show .inr (.inl ⟨a,b,true,1,rfl,rfl,by decide,?_,q⟩)
 have z:=EqT.lst (K:=K) (n:=0) (e:=fun _=>true) (SqL.of g) (SqL.of hb) rfl fun j x y c d=>by
  rw[c] at d;cases d;obtain⟨i,_,rfl⟩:=yQ.mp (ye c);have:=EqD.flat (K:=K) (H:=H) (n:=0) (x:=.int i) (y:=.int i) rfl rfl
  rwa[show eqV (V.int i) (V.int i)=true by simp[eqV]] at this
 have f:((List.range (ns.map V.int).length).all fun _=>true)=true:=by simp
 rwa[f] at z
theorem qbH:∀{l:List (Str×LS)},(∀ p∈l,2<=p.2.length)->l.length<=(l.map Prod.snd).flatten.length
 | [],_=>yU _
 | p::l,h=>by
  have h1:=h p yy;have b:=qbH (l:=l) fun q a=>h q (yu _ a);rw[yJ,Yu,yz,yC];lk
theorem sorted_same:∀{l m:LQ},l.Perm m->l.Pairwise (·<=·)->m.Pairwise (·<=·)->l=m:=fun p h1 c=>p.eq_of_pairwise (fun a b _ _ h h'=>Int.le_antisymm h h') h1 c
theorem ok_ps(F:Fun K "_law_parts_right" "_law_parts_right" qW f fd)(T:Txt K mg cc cw)(KO:DefOk P w K mg base CX0 1 "_law_partners" ["_law_pairs_here"] spPtA)(ug:DefOk P w K mg base CX0 1 "_law_unlike" ["_law_ties","_law_one","_law_other"] spUn)(K6:DefOk P w K mg base CX0 1 "_law_part_right" ["_law_names_here","_law_unlike_here","_law_one","_law_part"] spPr):FnOk P w K mg base CX0 2 f fd ["_law_names_here","_law_ties","_law_pairs_here","_law_others","_law_parts"] spPs:=by
 show F.ok Kb fun _ _ _ _ H vs Q E hr h=>?_
 .obtain⟨B,n,lt,a,b,D,ss,us,as,bs,ts,tps,qs,rs,ps,rfl,hn,hO,hT,W,hA,dA,hB,dB,u,R,A,bd,q⟩:=h;have X:=zT hr;have pf:=(qbG W dA).pf;have pg:=(qbG W dB).pf;have Z:=qdf hO.nd hO.few W pf pg;have fA:=dA.few;have fB:=dB.few;have au:=hO.few;have m:∀ p∈ps,PtK ss (pt qs) (pt rs) p.1 p.2 (stN p):=fun p c=>Z.ptk p (A.mem_iff.mp c);have az:∀ p∈ps,hdW p.2∈ss/\p.2[0]?=some (hdW p.2):=fun p c=>Z.heads p (A.mem_iff.mp c);have ao:=Z.steps W pf pg A;have af:=Z.apart A
  have aj:((ps.map Prod.snd).flatten).length<=14:=yi (ji af fun x hx=>by
   obtain⟨Yw,h1,h2⟩:=YH.mp hx;obtain⟨p,c,rfl⟩:=yQ.mp h1;show(m p c).inn x h2) au
  have g:=R.len;have bi:ps.length<=14:=yi (qbH fun p c=>(m p c).two) aj;show⟨_,(qb (qp (i:=5) Kb.nd rfl (yI rfl) (qo KO (hmR hr) qy (qa (pv 2) qd)))
 (qb (qp (i:=6) Kb.nd rfl (yI rfl) (qo ug (hmR hr) qy (qa (pv 1) (qa (pv 5) (qa (qo KO (hmR hr) qy (qa (pv 3) qd)) qd)))))
 (qb (qG (qO (qN (qj (zG (K:=K) rfl) rfl T.b_isinstance YC (qa (pv 4) (qa (jt (v:=.ty "list") rfl T.b_list xv rfl) qd))))) (qf (qt jr)) qv)
 (qb (qp (i:=7) Kb.nd rfl (yI rfl) (qK qd))
 (qb (qp (i:=8) Kb.nd rfl (yI rfl) qe)
 (qb (qU yW rfl (qM (K:=K) rfl (pv 4)) (qu (i:=9) Kb.nd rfl (yI rfl))
 (qb (qp (i:=10) Kb.nd rfl (yI rfl) (qo K6 (hmR hr) qy (qa (pv 0) (qa (pv 6) (qa (pv 5) (qa (pv 9) qd))))))
 (qb (qG (qk u_is (pv 10) zA (qx _)) (qf (qt jr)) qv)
 (qb (qp (i:=8) Kb.nd rfl (yI rfl) (qA (jT (K:=K) rfl) (pv 8) (pv 10)))
 (qf (qp (i:=7) Kb.nd rfl (yI rfl) (qA (jT (K:=K) rfl) (pv 7) (qq (qr (K:=K) rfl X) (pv 9) qe (fun _ _=>rfl)))))))))
 (qb (qaz (sc:=qg qW) (XN:=["_law_names_here","_law_ties","_law_pairs_here","_law_others","_law_parts","_law_one","_law_unlike_here","_law_seen","_law_many","_law_part","_law_steps","_law_firsts"]) ["_law_part","_law_names_here"] 1 [0] rfl rfl rfl (by room) rfl (by room) (i:=11) Kb.nd rfl rfl
  (qM (K:=K) rfl (pv 4)) (fun _ _ _ _=>(qu (i:=0) (show(["_law_part","_law_names_here"]:LS).Nodup by room) rfl (yI rfl))) jc
  (fun _ _ _ _=>jv)
  (fun _ _ _ _=>(qb2 (K:=K) rfl yO Xp PySem.F.type_list_index (qdQ (K:=K) rfl) (pv 1) (qa (qq (qr (K:=K) rfl X) (qq (qr (K:=K) rfl X) (pv 0) qe (fun _ _=>rfl)) qe (fun _ _=>rfl)) qd))))
 (qf (qt (zD (jo (zy (K:=K) rfl X) (pv 8) (qj (jw (K:=K) rfl) rfl T.b_len Yy (qa (pv 6) qd)) (qx _)) (zD (jo (zy (K:=K) rfl X) (qj (qeG) rfl T.b_len Yy (qa (je (qeF (K:=K) rfl rfl) rfl T.b_set boot_set (qa (pv 7) qd)) qd)) (qj (jw (K:=K) rfl) rfl T.b_len Yy (qa (pv 7) qd)) (qx _)) (zR (jo (zy (K:=K) rfl X) (pv 11) (qj (k_sorted (K:=K) rfl) rfl T.b_sorted boot_sorted (qa (pv 11) qd)) (qx _)))))))))))))),?_⟩
  apply⟨a,as,qs,rfl,hA,dA.nd,by lk,fun d1 H1 s1 _ ag=>?_⟩;apply⟨b,bs,rs,rfl,hB.same s1,dB.nd,by lk,fun d2 H2 s2 _ av=>?_⟩;apply⟨lt,d1,d2,us,tps,qs,rs,rfl,(hT.same s1).same s2,W.few,s2 _ _ ag,av,fun r ws H3 s3 bj hR=>?_⟩;have ap:=(s1.trans s2).trans s3;have ai:=s3 _ _ (s2 _ _ ag);apply qaB (.inl (.lst (ap _ _ u))) rfl (jP K "list" (by simp) "list" (by simp)) ?_;apply yq ?_;apply⟨by show 0<=sizeLine;decide,fun sn bc=>?_⟩;have s4:=qF (Sr H3) (o:=.lst []) bc;have ac:upd H3 sn (.lst []) sn=some (.lst (([]:LS).map V.str)):=qc;generalize upd H3 sn (.lst [])=H4 at s4 ac;have C:=ap.trans s4;apply .inl ⟨⟨_,.of (C _ _ u)⟩,qR (xs:=ts.map V.ref) (fun i σ J=>L2.Same H4 J/\∃(Y:Addr) (y9 U L:Option V),σ=[some (.ref n),some (.ref lt),some (.ref a),some (.ref b),some (.ref D),some (.ref d1),some (.ref r),some (.ref Y),some (.int ((((ps.take i).map stN).sum:Nat):Int)),y9,U,L]/\J Y=some (.lst ((((ps.take i).map Prod.snd).flatten).map V.str))) ⟨L2.Same.refl H4,sn,_,_,_,rfl,ac⟩ (fun i σ J _ c=>.of (c.1 _ _ (C _ _ u))) (fun i y σ J hy c=>?_) fun σ J c=>?_⟩
  .obtain⟨S,Y,y9,U,L,rfl,s⟩:=c;rw[yd] at hy;obtain⟨t,ht,rfl⟩:=yn.mp hy;obtain⟨p,c⟩:∃ p,ps[i]?=some p:=⟨_,yb (by rw[<- g];show(yc.mp ht).1)⟩;have am:=ye c;obtain⟨l,_,et,el⟩:=R.at_ i t p ht c;have d:=C.trans S;have tk:ps.take (i+1)=ps.take i++[p]:=by rw[yR,c];rfl
   have aw:ps.drop i=p::ps.drop (i+1):=by
    obtain⟨bh,e⟩:=yc.mp c;rw[<- e,List.getElem_cons_drop]
   have bg:((ps.take i).map Prod.snd).flatten.length+p.2.length<=14:=by
    have:((ps.take i++ps.drop i).map Prod.snd).flatten.length<=14:=by rw[xW];show aj
    rw[aw,yE,Xf,yJ,Yu,yz,yz] at this;lk
   apply⟨n,r,d1,t,l,ss,ws,tps,qs,rs,p.1,p.2,stN p,rfl,d _ _ hn,(hR.same s4).same S,S _ _ (s4 _ _ ai),d _ _ et,d _ _ el,W,Z,pf,pg,m p am,fun J2 I=>?_⟩;apply isNI ?_;show⟨_,rfl,qE (fun h=>by cases h) fun _=>?_⟩;ext;have ar:=I _ _ (d _ _ et);have aq:=I _ _ (d _ _ el);have aa:=I _ _ s;show .inl (zo ar rfl ?_);show .inl ⟨Y,l,_,_,rfl,rfl,aa,aq,by rw[ya,ya];show yP (qi (by lk)),fun z hz=>?_⟩;have sz:=qF (Sr J2) (o:=.lst (((ps.take i).map Prod.snd).flatten.map V.str++p.2.map V.str)) hz;show⟨(S.trans I).trans sz,z,some (.ref t),some (.int (stN p:Nat)),L,?_,?_⟩
   .rw [tk,yE,Xl];have e3:(((ps.take i).map stN).sum+([p].map stN).sum:Nat)=((ps.take i).map stN).sum+stN p:=by simp
    rw[e3,Int.natCast_add];rfl
   .rw [tk,yE,Xf,yE];have e4:([p].map Prod.snd).flatten=p.2:=by simp
    rw[e4];show qc
  .obtain⟨S,Y,y9,U,L,rfl,s⟩:=c;rw[show(ts.map V.ref).length=ps.length by rw[ya,g],Yc] at s ⊢;have d:=C.trans S;have ad:=d _ _ u;apply .inl ⟨⟨_,.of ad⟩,jJ (xs:=ts.map V.ref) (fun i ys G=>G=J/\ys=((ps.take i).map (qaE ss)).map V.int) ⟨rfl,rfl⟩ (fun i ys G _ c=>by rw[c.1];show .of ad) (fun i y ys G hy c=>?_) fun ys G c=>?_⟩
   .obtain⟨rfl,rfl⟩:=c;rw[yd] at hy;obtain⟨t,ht,rfl⟩:=yn.mp hy;obtain⟨p,c⟩:∃ p,ps[i]?=some p:=⟨_,yb (by rw[<- g];show(yc.mp ht).1)⟩;obtain⟨l,_,et,el⟩:=R.at_ i t p ht c;obtain⟨ax,ay⟩:=az p (ye c);apply qaC ?_;apply⟨.inl ⟨rfl,_,.of (d _ _ hn)⟩,?_⟩;apply .inl (zo (d _ _ et) rfl ?_);apply .inl (zd (d _ _ el) (v:=.str (hdW p.2)) (qw (j:=0) (by rw[yd,ay];rfl)) ?_);show⟨n,ss,hdW p.2,rfl,rfl,SqL.of (d _ _ hn),ax,?_⟩;show⟨?_,rfl,?_⟩
    .rw [ya,ya,yL];show qi (by lk)
    .rw [yR,c,yE,yE];rfl
   .obtain⟨rfl,rfl⟩:=c;rw[show(ts.map V.ref).length=ps.length by rw[ya,g],Yc];show⟨by rw[ya,ya];show yP (qi (by lk)),fun fl ak=>?_⟩;have sf:=qF (Sr G) (o:=.lst ((ps.map (qaE ss)).map V.int)) ak;have O:upd G fl (.lst ((ps.map (qaE ss)).map V.int)) fl=some (.lst ((ps.map (qaE ss)).map V.int)):=qc;generalize upd G fl (.lst ((ps.map (qaE ss)).map V.int))=H5 at sf O;have bf:=d.trans sf;have ae:=((hR.same s4).same S).same sf;have M:=sf _ _ s;have be:=ae.2.len;apply ze ae.1 ?_;rw[ya,be,ao];show qel ?_;rw[yD rfl];apply qaC ?_;apply⟨Y,_,rfl,SqL.of M,af,by lk,fun N bb=>?_⟩;have s6:=qF (Sr H5) (o:=qdT N (ps.map Prod.snd).flatten) bb;have e6:upd H5 N (qdT N (ps.map Prod.snd).flatten) N=some (qdT N (ps.map Prod.snd).flatten):=qc;generalize upd H5 N (qdT N (ps.map Prod.snd).flatten)=H6 at s6 e6;apply⟨N,_,rfl,e6,?_⟩;apply ze (s6 _ _ M) ?_;rw[ya];show qel ?_;rw[yD rfl];apply qaC ?_;apply⟨fl,ps.map (qaE ss),rfl,SqL.of (s6 _ _ O),by rw[ya];lk,fun so ms an ba al=>?_⟩;have em:=sorted_same ba al (YV.mpr bd);subst em;have s7:=qF (Sr H6) (o:=.lst ((ps.map (qaE ss)).map V.int)) an;have e7:upd H6 so (.lst ((ps.map (qaE ss)).map V.int)) so=some (.lst ((ps.map (qaE ss)).map V.int)):=qc;generalize upd H6 so (.lst ((ps.map (qaE ss)).map V.int))=H7 at s7 e7;show .inl (.inl (eq_intL (s7 _ _ (s6 _ _ O)) e7 ?_));apply q _ ((bf.trans s6).trans s7)
theorem pts_swap{f:Str->Option Str}:qaO ss g f=qaO ss f g:=by
 unfold qaO qar qaD;rw[nb_swap]
theorem qdk{f:Str->Option Str}:qaO ss f f=[]:=by
 have e:∀ z,nbL ss f f z=[]:=fun z=>by
  unfold nbL;rw[List.filter_eq_nil_iff];intro a _;unfold Dx;simp
 have r:qaD ss f f=[]:=qaP fun z _ h=>by rw[e z] at h;cases h
 have g:qar ss f f=[]:=qaP fun z _ h=>by rw[e z] at h;cases h
 unfold qaO;rw[r,g];rfl
theorem qdl:∀{l:List (Str×LS)},((l.map Prod.snd).flatten).Nodup->(∀ p∈l,p.2[0]?=some (hdW p.2))->l.Pairwise fun p q=>hdW p.2≠hdW q.2
 | [],_,_=>.nil
 | p::l,h,k=>by
  rw[yJ,Yu] at h;obtain⟨_,b,c⟩:=yZ.mp h;show Y5.mpr ⟨fun q a e=>?_,qdl b fun q a=>k q (yu _ a)⟩;show c _ (ye (k p yy)) _ (YH.mpr ⟨q.2,yQ.mpr ⟨q,a,rfl⟩,ye (k q (yu _ a))⟩) e
theorem idx_inj{a:Str}(d:a∈ss)(hb:b∈ss)(e:ss.idxOf a=ss.idxOf b):a=b:=by
 have k:∀{c:Str},c∈ss->ss[ss.idxOf c]?=some c:=fun{c} hc=>by
  have hl:=List.idxOf_lt_length_iff.mpr hc;rw[yb hl,ki hl]
 have:=k d;rw[e,k hb] at this;show(ym this).symm
theorem Two.order{f:Str->Option Str}(T:Two ss f g){qs:List (Str×LS)}(l:ps.Perm (qaO ss f g))(d:qs.Perm (qaO ss f g))(sp:ps.Pairwise fun p q=>qaE ss p<=qaE ss q)(sq:qs.Pairwise fun p q=>qaE ss p<=qaE ss q):ps=qs:=by
 have c:∀ q∈qs,hdW q.2∈ss/\q.2[0]?=some (hdW q.2):=fun q h=>T.heads q (d.mem_iff.mp h);have ne:=qdl (T.apart d) fun q h=>(c q h).2;show qbk (qaE ss) (l.trans d.symm) sp ?_;show(List.Pairwise.imp_of_mem (fun{a b} j hb h=>?_) (sq.and ne));obtain⟨h1,i⟩:=h;have m:qaE ss a≠qaE ss b:=fun e=>i (idx_inj (c a j).1 (c b hb).1 (Int.ofNat.inj e));lk
noncomputable def prD(p:Str×LS):PyData:=.tuple [.str p.1,.list (p.2.map .str)]
theorem qdm:∀(l:LS),DatS H (l.map V.str) (l.map .str)
 | []=>.nil
 | x::l=>.cons (.str x) (qdm l)
theorem qau:∀{ts:LI} {ps:List (Str×LS)},All2 (BtO B H) ts ps->DatS H (ts.map V.ref) (ps.map prD)
 | [],[],_=>.nil
 | [],_::_,h=>by have:=h.len;cases this
 | _::_,[],h=>by have:=h.len;cases this
 | t::ts,p::ps,h=>by
  obtain⟨l,_,c,d⟩:=h.at_ 0 t p rfl rfl;show .cons (.tup c (.cons (.str _) (.cons (.lst d (qdm _)) .nil))) (qau ⟨by have:=h.len;simpa using this,fun j a b e hb=>h.at_ (j+1) a b e hb⟩)
theorem qcF(F:α->PyData):∀{l:List α},(∀ x∈l,Shw (F x) n m)->ShwS (l.map F) ((n+1)*l.length) m
 | [],_=>ShwS.nil
 | x::l,h=>by
  show(ShwS.cons (h x yy) (qcF F fun y a=>h y (yu _ a))).mono ?_ (yh _);rw[yC,Nat.mul_succ];lk
theorem shw_parts(d:NOk ss)(hl:ps.length<=14)(h:∀ p∈ps,(p.1="row"\/p.1="ring")/\p.2.length<=14/\∀ x∈p.2,x∈ss):Shw (.list (ps.map prD)) (2 ^ 20) 60:=by
 have one:∀ p∈ps,Shw (prD p) 400 3:=fun p g=>by
  obtain⟨h1,i,c⟩:=h p g
  have a:Shw (.str p.1) 4 2:=by
   rcases h1 with e | e<;>rw[e]
   .show(Shw.str (by room)).mono (by room) (yh _)
   .show(Shw.str (by room)).mono (by room) (yh _)
  have b:Shw (.list (p.2.map .str)) (7*p.2.length) 2:=((qcF PyData.str (n:=6) (m:=1) fun x f=>(Shw.str (qbm (d.nm x (c x f)))).mono (qcb (d.nm x (c x f))) (yh _))).list;show((ShwS.cons a (ShwS.cons b ShwS.nil)).tuple).mono (by lk) (yh _)
 show((qcF prD one).list).mono (by have:401*ps.length<=401*14:=Nat.mul_le_mul_left _ hl;lk) (by decide)
theorem lst_ne3{a b c:Int}:(HO.lst (Yw.map V.str))≠.lst [.int a,.int b,.int c]:=fun z=>by
 have d:=HO.lst.inj z
 match Yw,d with
 | [],d=>cases d
 | _::_,d=>cases d
theorem Pn.ne(h:Pn N H p)(e:H l=some (.lst (Yw.map V.str))):l≠p:=by
 obtain⟨a,b,c,d,_⟩:=h;show jD e d lst_ne3
theorem Pn.neT(h:Pn N H p)(e:H l=some (.tup xs)):l≠p:=by
 obtain⟨a,b,c,d,_⟩:=h;show jD e d (by intro z;cases z)
theorem qav(h:TbB H tb)(k:∀ b o,H b=some o->(∀ xs,o≠.lst xs)->J b=some o):TbB J tb:=by
 obtain⟨ps,h1,e,f⟩:=h;show⟨ps,k _ _ h1 (fun xs z=>by cases z),e,f.imp id fun⟨c,a,d⟩=>⟨c,a,k _ _ d fun xs z=>by cases z⟩⟩
theorem DT.go(h:DT ss tps):TGo ss tps:=
 ⟨h.few,h.ok,List.Pairwise.imp_of_mem (fun{q r} b c a=>⟨a,fun z=>h.one r c (by rw[<- z];show b)⟩) h.nd⟩
structure St4(cw p tb:Addr)(N:Nat)(H:Hp)(x n l r o:Addr)(ss:LS)(ns:LN)(ts us ws:LI)(tps qs rs:LP):Prop where
 web:WebAt cw H x ss ns
 nm:H n=some (.lst (ss.map V.str))
 tie:PL H l ts tps
 pr:PL H r us qs
 ot:PL H o ws rs
 box:Pn N H p
 tbl:TbB H tb
theorem PL.butT{ps:Array Value}(h:PL H r us qs)(a:H tb=some (.tbl ps))(b:qcy tb H H'):PL H' r us qs:=⟨b _ _ (jD h.1 a (by intro z;cases z)) h.1,h.2.mono fun t ab e=>b _ _ (jD e a (by intro z;cases z)) e⟩
theorem St4.but{n o:Addr}(h:St4 cw p tb N H x n l r o ss ns ts us ws tps qs rs)(b:qcy tb H H')(t:TbB H' tb):St4 cw p tb N H' x n l r o ss ns ts us ws tps qs rs:=by
 obtain⟨ps,a,_⟩:=id h.tbl;obtain⟨c,d,f,e,g⟩:=h.box;show⟨h.web.butT a b,b _ _ (jD h.nm a (by intro z;cases z)) h.nm,h.tie.butT a b,h.pr.butT a b,h.ot.butT a b,⟨c,d,f,b _ _ (jD e a (by intro z;cases z)) e,g⟩,t⟩
theorem St4.same{n o:Addr}(h:St4 cw p tb N H x n l r o ss ns ts us ws tps qs rs)(s:L2.Same H H'):St4 cw p tb N H' x n l r o ss ns ts us ws tps qs rs:=h.but (fun b o _ e=>s b o e) (h.tbl.same s)
structure Fd4(tb:Addr)(B J:Hp)(D:Addr)(ts:LI)(k:Nat):Prop where
 but:qcy tb B J
 tbl:TbB J tb
 lst:J D=some (.lst (ts.map V.ref))
 inn:∀ t∈ts,∃(w:Str) (l:Addr) (zs:LS),B l=none/\J t=some (.tup [.str w,.ref l])/\J l=some (.lst (zs.map V.str))/\zs.length<=k
theorem Fd4.add{D t:Addr}{k:Nat}{w:Str}(h:Fd4 tb B J D ts k)(u:∃ ps,B tb=some (.tbl ps))(v:t∈ts)(hl:B l=none)(A:J t=some (.tup [.str w,.ref l]))(c:J l=some (.lst (zs.map V.str)))(G:zs.length<=k)(s:Str):Fd4 tb B (upd J l (.lst ((zs++[s]).map V.str))) D ts (k+1):=by
 obtain⟨ps,E⟩:=u
 have i:D≠l:=fun z=>by
  have:=h.lst;rw[z,c] at this
  match ts,v,zs,this with
  | _::_,_,[],this=>cases this
  | _::_,_,_::_,this=>cases this
 obtain⟨y,F,_⟩:=id h.tbl;have nb:∀{b:Addr} {o:HO},B b=some o->b≠l:=fun e z=>by rw[z,hl] at e;cases e
 show⟨fun b o n e=>by rw[qh (nb e)];show h.but b o n e,qav h.tbl fun b o e x=>by rw[qh (fun z=>by rw[z,c] at e;show x _ (ym e).symm)];show e,by rw[qh i];show h.lst,fun t' f=>?_⟩;obtain⟨q,g,j,m,d,r,C⟩:=h.inn t' f;have p:t'≠l:=jD d c (by intro z;cases z);by_cases a:g=l
 .subst a;show⟨q,g,zs++[s],m,by rw[qh p];show d,qc,by rw[yz];show zs.length+1<=_;lk⟩
 .show⟨q,g,j,m,by rw[qh p];show d,by rw[qh a];show r,by lk⟩
theorem Ke:FnScope ["_law_script","_law_names_here","_law_ties","_law_web_here","_law_box_here","_law_some","_law_round_about","_law_even","_law_odd","_law_found","_law_turn","_law_pairs_here","_law_others","_law_handed","_law_kept","_law_part","_law_bad"] ["_law_script"] (qg qcG):=fS
theorem FnOk.or{P:Program}{base:Heap}{CX:CXT}{k:Nat}{f:Addr}{ps:LS}{b c:Sp}(d:FnOk P w K mg base CX k f fd ps b)(e:FnOk P w K mg base CX k f fd ps c):FnOk P w K mg base CX k f fd ps (fun vs H Q E=>b vs H Q E\/c vs H Q E):=
 ⟨fun vs H Q E h=>h.elim (d.len vs H Q E) (e.len vs H Q E),fun A a s H args us vs Q E i g hb hv j=>j.elim (d.run A a s H args us vs Q E i g hb hv) (e.run A a s H args us vs Q E i g hb hv)⟩
theorem webP_of{ps:Array Value}(h:WebAt cw H x ss ns)(m:H p=none)(c:H tb=some (.tbl ps)):WebP (fun a=>a=p\/a=tb) cw H x ss ns:=by
 obtain⟨dx,d,ol,n,h1,g,i,j,l⟩:=h;have f:∀{b:Addr} {o:HO},H b=some o->b≠p:=fun e z=>by rw[z,m] at e;cases e
 show⟨dx,d,ol,n,h1,g,i,j,l,fun z=>z.elim (f h1) (jD h1 c (by intro z;cases z)),fun z=>z.elim (f g) (jD g c (by intro z;cases z)),fun z=>z.elim (f i) (jD i c (by intro z;cases z)),fun z=>z.elim (f j) (jD j c (by intro z;cases z))⟩
inductive spLawT(K:W.Frag)(tb:Addr)(vs:List V)(H:Hp)(Q:VK)(E:XK):Prop|mk (a:Addr) (ns:LQ) (_:vs=[.ref a]) (_:SqL K H a (ns.map V.int)) (_:ns.length<=63) (_:TbB H tb) (_:∀ H',Q (.bl true) H')
theorem qeT{G:Hp}{m y dx:Addr}{d:LP}{Q:VK}(x:G m=some (.lst (ss.map V.str)))(f:NOk ss)(r:PL G l us d)(w:DT ss d)(n:G y=none)(v:G dx=none)(i:dx≠y)
  (h:∀ ns H2,L2.Same G H2->WebAt cw H2 y ss ns->Adj ss ns d->Q .non H2):spWeb cw [.ref y,.ref m,.ref l] (upd (upd G dx (.own y)) y (.ins cw dx [])) Q E:=by
 have j:=qF (qF (Sr G) (o:=.own y) v) (o:=.ins cw dx []) (show upd G dx (.own y) y=none by rw[qh (Yq i)];show n);show⟨y,dx,m,l,ss,us,d,rfl,qc,j _ _ x,f.few,f.nd,f.nm,r.same j,w.go,fun ns H' b q p=>?_⟩;show h ns H' (fun c o e=>b c o (fun z=>by rw[z,n] at e;cases e) (j _ _ e)) q.web fun a b s t u g=>by rw[p.2.2 a b s t u g,xP]
theorem qd8{b:Addr}(g:H a=some (.lst (us.map V.ref)))(hb:H b=some (.lst (us.map V.ref))):EqT K H (n+1) a b true:=by
 have z:=EqT.lst (K:=K) (n:=n) (e:=fun _=>true) (SqL.of g) (SqL.of hb) rfl fun j x y c d=>by
  rw[c] at d;cases d;obtain⟨u,_,rfl⟩:=yQ.mp (ye c);show .self
 have f:((List.range (us.map V.ref).length).all fun _=>true)=true:=by simp
 rwa[f] at z
theorem lists_eq{d b h i:Addr}{Q:VK}(hc:H c=some (.lst [.ref a,.ref b]))(p:H d=some (.lst [.ref h,.ref i]))(o:H a=some (.lst (us.map V.ref)))(l:H h=some (.lst (us.map V.ref)))(hb:H b=some (.lst (ws.map V.ref)))(m:H i=some (.lst (ws.map V.ref)))(r:a≠h)(nb:b≠i)(q:Q (.bl false) H):qeC K true (.ref c) (.ref d) H Q:=by
 show .inr (.inl ⟨c,d,true,2,rfl,rfl,by decide,?_,q⟩)
 have z:=EqT.lst (K:=K) (n:=1) (e:=fun _=>true) (SqL.of hc) (SqL.of p) rfl fun j x y f g=>by
  match j,f,g with
  | 0,f,g=>cases f;cases g;show .deep (qd8 o l) r
  | 1,f,g=>cases f;cases g;show .deep (qd8 hb m) nb
  | j+2,f,g=>cases f
 show z
theorem qd9:∀{xs:List V} {seen:LS},apL H ss tps seen (xs++[.non])=false
 | [],_=>rfl
 | x::xs,seen=>by
  show(match qa7 H ss tps x with | none=>false | some ab=>if ab.1∈seen\/ab.2∈seen then false else apL H ss tps (seen++[ab.1,ab.2]) (xs++[.non]))=false
  cases qa7 H ss tps x with
  | none=>rfl
  | some ab =>
   dsimp only;split
   .rfl
   .show qd9
theorem all2_rev{R:α->β->Prop}{l:List α}{m:List β}(h:All2 R l m):All2 R l.reverse m.reverse:=by
 show⟨by rw[xn,xn,h.len],fun j a b c hb=>?_⟩;have hl:j<l.length:=by have:=(yc.mp c).1;rwa[xn] at this
 have d:j<m.length:=by have:=(yc.mp hb).1;rwa[xn] at this
 rw[List.getElem?_reverse hl] at c;rw[List.getElem?_reverse d] at hb;rw[h.len] at c;show h.at_ _ a b c hb
theorem ok_law24{f:Addr}(F:Fun K "law" "law" qcG f fd)(T:Txt K mg cc cw)(ur:DefOk P w K mg base CX0 3 "_law_web" ["_law_script","_law_most"] (spWbA K))(uo:MakeOk P w K mg base CX0 5 cw "Web" ["self","names","ties"] (spWeb cw))(KP:DefOk P w K mg base CX0 1 "_law_box" ["_law_cell"] spPu)(KL:DefOk P w K mg base CX0 1 "_law_at" ["_law_script","_law_k"] (spCe K))(K8:DefOk P w K mg base CX0 2 "_law_pairs" ["_law_box_here","_law_ties"] spPrA)(um:DefOk P w K mg base CX0 3 "_law_ring" ["_law_box_here"] spRg)(Kn:DefOk P w K mg base CX0 10 "between" ["web","one","other"] (spBt cw tb))(KE:DefOk P w K mg base CX0 2 "_law_parts_right" ["_law_names_here","_law_ties","_law_pairs_here","_law_others","_law_parts"] spPs)(KU:DefOk P w K mg base CX0 11 "_law_refused" ["_law_web_here","_law_one","_law_other","_law_due"] (spRfB cw)):FnOk P w K mg base CX0 14 f fd ["_law_script"] (spLawT K tb):=by
 show F.ok Ke fun _ A _ _ H vs Q E s h=>?_
 .obtain⟨a,zs,rfl,ha,hl,hT,q⟩:=h;have W:=zT s;show⟨_,(qb (qT (qo ur (hmR s) qy (qa (pv 0) (qa qe qd))) (qa9 rfl (qQ (qu (i:=1) Ke.nd rfl (yI rfl)) (qQ (qu (i:=2) Ke.nd rfl (yI rfl)) qaw))))
 (qb (qp (i:=3) Ke.nd rfl (yI rfl) (qc0 uo (hmR s) (qa (pv 1) (qa (pv 2) qd))))
 (qb (qp (i:=4) Ke.nd rfl (yI rfl) (qo KP (hmR s) qy (qa (qo KL (hmR s) qy (qa (pv 0) (qa qe qd))) qd)))
 (qb (qT (qo um (hmR s) qy (qa (pv 4) qd)) (qa9 rfl (qQ (qu (i:=5) Ke.nd rfl (yI rfl)) (qQ (qu (i:=6) Ke.nd rfl (yI rfl)) (qQ (qu (i:=7) Ke.nd rfl (yI rfl)) (qQ (qu (i:=8) Ke.nd rfl (yI rfl)) qaw))))))
 (qb (qp (i:=9) Ke.nd rfl (yI rfl) (qo Kn (hmR s) qy (qa (qc0 uo (hmR s) (qa (pv 5) (qa (pv 6) qd))) (qa (pv 7) (qa (pv 8) qd)))))
 (qb (qG (PW.pt (zl (qk (zq (K:=K) rfl W) (qj (jw (K:=K) rfl) rfl T.b_len Yy (qa (pv 9) qd)) qe (qx _)) (jY (qO (qN (qo KE (hmR s) qy (qa (pv 5) (qa (pv 6) (qa (pv 7) (qa (pv 8) (qa (pv 9) qd))))))))))) (qf (qt jr)) qv)
 (qb (qU yW rfl (jd rfl T.b_range (qa qe qd)) (qu (i:=10) Ke.nd rfl (yI rfl))
 (qb (qp (i:=11) Ke.nd rfl (yI rfl) (qo K8 (hmR s) qy (qa (pv 4) (qa (pv 2) qd))))
 (qb (qp (i:=12) Ke.nd rfl (yI rfl) (qo K8 (hmR s) qy (qa (pv 4) (qa (pv 2) qd))))
 (qb (qp (i:=13) Ke.nd rfl (yI rfl) (qK (qa (je (zW (K:=K) rfl rfl) rfl T.b_list xv (qa (pv 11) qd)) (qa (je (zW (K:=K) rfl rfl) rfl T.b_list xv (qa (pv 12) qd)) qd))))
 (qb (qp (i:=9) Ke.nd rfl (yI rfl) (qo Kn (hmR s) qy (qa (pv 3) (qa (qq (qr (K:=K) rfl W) (pv 13) qe (fun _ _=>rfl)) (qa (qq (qr (K:=K) rfl W) (pv 13) qe (fun _ _=>rfl)) qd)))))
 (qb (qG (PW.pt (zl (qO (qN (qo KE (hmR s) qy (qa (pv 1) (qa (pv 2) (qa (pv 11) (qa (pv 12) (qa (pv 9) qd)))))))) (jY (qk (zq (K:=K) rfl W) (pv 13) (qK (qa (pv 11) (qa (pv 12) qd))) (qx _))))) (qf (qt jr)) qv)
 (qb (qp (i:=14) Ke.nd rfl (yI rfl) (qj (zX (K:=K) rfl W s.gd T.smod) rfl T.b_repr kc (qa (pv 9) qd)))
 (qb (qU yW rfl (qM (K:=K) rfl (pv 9)) (qu (i:=15) Ke.nd rfl (yI rfl))
 (qf (q9 (qb2 (K:=K) rfl yO Ye Yg qL (qq (qr (K:=K) rfl W) (pv 15) qe (fun _ _=>rfl)) (qa qZ qd)))))
 (qb (q9 (qb2 (K:=K) rfl yO Ye Yg qL (pv 9) (qa (qV (qa qZ (qa (qK qd) qd))) qd)))
 (qb (qG (PW.pt (zl (qk (zq (K:=K) rfl W) (qj (zX (K:=K) rfl W s.gd T.smod) rfl T.b_repr kc (qa (qo Kn (hmR s) qy (qa (pv 3) (qa (pv 12) (qa (pv 11) qd)))) qd)) (pv 14) (qx _)) (jY (qk (zq (K:=K) rfl W) (qj (zX (K:=K) rfl W s.gd T.smod) rfl T.b_repr kc (qa (qo Kn (hmR s) qy (qa (pv 3) (qa (pe_rvL (K:=K) rfl (pv 11) (jR (qcn qaQ qe))) (qa (pv 12) qd)))) qd)) (pv 14) (qx _))))) (qf (qt jr)) qv)
 (qb (qG (PW.pt (zl (qk (zq (K:=K) rfl W) (qo Kn (hmR s) qy (qa (pv 3) (qa (pv 11) (qa (je (zW (K:=K) rfl rfl) rfl T.b_list xv (qa (pv 11) qd)) qd)))) (qK qd) (qx _)) (jY (qk (zq (K:=K) rfl W) (qo Kn (hmR s) qy (qa (pv 3) (qa (pv 11) (qa (pv 11) qd)))) (qK qd) (qx _))))) (qf (qt jr)) qv)
 (qf (qU yW rfl (qM (K:=K) rfl (qK (qa zA (qa (je (k_tupleU (K:=K) rfl) rfl T.b_tuple kj (qa (pv 11) qd)) (qa (qK (qa (qV (qa qZ (qa qZ qd))) qd)) (qa (qA (jT (K:=K) rfl) (pv 11) (qK (qa zA qd))) (qa ju (qa qe qd)))))))) (qu (i:=16) Ke.nd rfl (yI rfl))
 (qf (qG (PW.pt (zl (qO (qN (qo KU (hmR s) qy (qa (pv 3) (qa (pv 16) (qa (qK (qa zA qd)) (qa (pv 16) qd))))))) (jY (qO (qN (qo KU (hmR s) qy (qa (pv 3) (qa (pv 11) (qa (pv 16) (qa (pv 16) qd)))))))))) (qf (qt jr)) qv)))))))))))))))
 (qf (qt jr))))))))),?_⟩
  apply qe5 ?_;apply⟨a,zs,rfl,ha,hl,fun t n l ss ts tps H1 s1 ht hf he hg hn hO hP O=>?_⟩;show⟨t,_,rfl,SqT.of ht,rfl,_,_,rfl,_,_,rfl,rfl,?_⟩;apply fun y dx hy fg fp=>qeT hn hO hP O hy fg fp fun ns H2 s2 W2 hA=>⟨rfl,?_⟩;have bx:=s1.trans s2;apply⟨a,zs,1,rfl,bx.seq ha,by decide,fun c1=>?_⟩;apply⟨c1,rfl,fun p H3 s3 ee as=>?_⟩;have gm:=bx.trans s3;have T3:=hT.same gm;obtain⟨tp,ho,_⟩:=id T3;obtain⟨ik,ej,_⟩:=id (hT.same bx);have W3:WebP (fun a=>a=p\/a=tb) cw H3 y ss ns:=(webP_of W2 ee ej).keep fun c o _ e=>s3 c o e;have ea:=s3 _ _ (s2 _ _ hn);have P3:=(hP.same s2).same s3;have ac:l≠p:=fun z=>by(have:=(hP.same s2).1;rw[z,ee] at this;cases this)
  have ec:n≠p:=as.ne ea;apply qe5 ?_;apply⟨p,5000,rfl,as.mono (by decide),fun t4 n4 l4 e4 o4 eq rg m gn de ep H4 b4 B4 fu bu au R dw du ed=>?_⟩;have T4:TbB H4 tb:=qav T3 fun b N e hn=>b4 b N (fun z=>by obtain⟨_,_,_,e2,_⟩:=as;rw[z,e2] at e;show hn _ (ym e).symm) e;have W4:=W3.keep (fun c o n e=>b4 c o (fun z=>n (.inl z)) e);have bi:=b4 _ _ ec ea;have P4:PL H4 l ts tps:=⟨b4 _ _ ac P3.1,P3.2.mono fun _ _ e=>b4 _ _ (as.neT e) e⟩;show⟨t4,_,rfl,SqT.of fu,rfl,_,_,rfl,_,_,rfl,_,_,rfl,_,_,rfl,rfl,?_⟩;apply fun y5 gy fy ds eb=>qeT bu au dw R.dt fy ds eb fun gb H5 s5 W5 fb=>⟨rfl,?_⟩;have T5:=T4.same s5;obtain⟨im,M,_⟩:=id T5;apply⟨y5,e4,o4,eq,gb,de,ep,rTs rg m,rE rg m,rO rg m,rfl,W5,fb,du.same s5,qbG R.dt R.dpE,ed.same s5,qbG R.dt R.dpO,R.dt,T5,fun D6 er gg H6 b6 T6 gv cm bg aj gl=>?_⟩;have em:er.length=1:=by rw[bg.len,aj.length_eq];show R.one au.nd au.few
  apply ze cm ?_;rw[ya,em];apply .inl ⟨rfl,rfl,?_⟩;show⟨_,rfl,qE (fun h=>by cases h) fun _=>?_⟩;ext;have nt:∀{b:Addr} {o:HO},H5 b=some o->(∀ z,o≠.tbl z)->b≠tb:=fun e no=>jD e M (no _);show⟨H5,n4,l4,e4,o4,D6,eq,gn,de,ep,er,rTs rg m,rE rg m,rO rg m,gg,rfl,b6 _ _ (nt (s5 _ _ bu) (by intro z;intro k;cases k)) (s5 _ _ bu),au,(dw.same s5).butT M b6,R.dt,(du.same s5).butT M b6,R.dpE,(ed.same s5).butT M b6,R.dpO,cm,bg,aj,gl,fun H7 s7=>?_⟩;apply yq ?_;apply⟨2,rfl,by decide,by decide,?_⟩;have aq:qcy tb H4 H7:=fun b o n e=>s7 _ _ (b6 b o n (s5 _ _ e));obtain⟨il,ad,_⟩:=id T4
  have B7:Pn 5000 H7 p:=by
   obtain⟨a1,a2,a3,e,r'⟩:=B4;show⟨a1,a2,a3,aq _ _ (jD e ad (by intro z;cases z)) e,r'⟩
  show zZ (lo:=0) (n:=2) (fun i S J=>i<=2/\WebP (fun a=>a=p\/a=tb) cw J y ss ns/\J n=some (.lst (ss.map V.str))/\PL J l ts tps/\TbB J tb/\Pn (1000*(2-i)) J p/\∃ z9 cb cd ce cf cg an az,S=[some (.ref a),some (.ref n),some (.ref l),some (.ref y),some (.ref p),some (.ref n4),some (.ref l4),some (.ref e4),some (.ref o4),z9,cb,cd,ce,cf,cg,an,az]) ⟨by decide,W4.keep fun c o n e=>aq c o (fun z=>n (.inr z)) e,aq _ _ (jD bi ad (by intro z;cases z)) bi,P4.butT ad aq,T6.same s7,B7.mono (by decide),_,_,_,_,_,_,_,_,rfl⟩ (fun i S J hi d=>?_) fun S J d=>?_
  .obtain⟨_,WJ,nJ,PJ,TJ,BJ,z9,cb,cd,ce,cf,cg,an,az,rfl⟩:=d;have gx:=WJ;apply⟨p,l,ss,ts,tps,1000*(2-i)-90,rfl,BJ.mono (by lk),ac,PJ,O,fun r us qs J1 b1 B1 hm fr Pr dq=>?_⟩;have T1:TbB J1 tb:=qav TJ fun b N e hn=>b1 b N (fun z=>by obtain⟨_,_,_,e2,_⟩:=BJ;rw[z,e2] at e;show hn _ (ym e).symm) e;have P1:PL J1 l ts tps:=⟨b1 _ _ ac PJ.1,PJ.2.mono fun _ _ e=>b1 _ _ (BJ.neT e) e⟩;apply⟨p,l,ss,ts,tps,1000*(2-i)-180,rfl,B1.mono (by lk),ac,P1,O,fun o ws rs J2 b2 B2 hh hk Po dr=>?_⟩;have T2:TbB J2 tb:=qav T1 fun b N e hn=>b2 b N (fun z=>by obtain⟨_,_,_,e2,_⟩:=B1;rw[z,e2] at e;show hn _ (ym e).symm) e;have ap:But p J J2:=fun c o hc e=>b2 c o hc (b1 c o hc e);have ch:=WJ.keep fun c o n e=>ap c o (fun z=>n (.inl z)) e;have S2:St4 cw p tb (1000*(2-i)-180) J2 y n l r o ss ns ts us ws tps qs rs:=⟨ch.web,ap _ _ ec nJ,⟨ap _ _ ac PJ.1,PJ.2.mono fun _ _ e=>ap _ _ (BJ.neT e) e⟩,⟨b2 _ _ fr Pr.1,Pr.2.mono fun _ _ e=>b2 _ _ (B1.neT e) e⟩,Po,B2,T2⟩;have gq:=qbG O dq;have gr:=qbG O dr;have Tw:=qdf hO.nd hO.few O gq.pf gr.pf;obtain⟨io,gw,_⟩:=id T2;apply .inl ⟨r,_,rfl,.inl (.of S2.pr.1),fun h1 br=>?_⟩;have ca:=qF (Sr J2) (o:=.lst (us.map V.ref)) br;have cr:upd J2 h1 (.lst (us.map V.ref)) h1=some (.lst (us.map V.ref)):=qc;generalize upd J2 h1 (.lst (us.map V.ref))=J3 at ca cr;have S3:=S2.same ca;apply .inl ⟨o,_,rfl,.inl (.of S3.ot.1),fun U bt=>?_⟩;have ax:=qF (Sr J3) (o:=.lst (ws.map V.ref)) bt;have ct:upd J3 U (.lst (ws.map V.ref)) U=some (.lst (ws.map V.ref)):=qc;generalize upd J3 U (.lst (ws.map V.ref))=J4 at ax ct;have S4:=S3.same ax;apply⟨by show 2<=sizeLine;decide,fun hd fl=>?_⟩;have am:=qF (Sr J4) (o:=.lst [.ref h1,.ref U]) fl;have aa:upd J4 hd (.lst [.ref h1,.ref U]) hd=some (.lst [.ref h1,.ref U]):=qc;generalize upd J4 hd (.lst [.ref h1,.ref U])=J5 at am aa;have S5:=S4.same am;have Y:=am _ _ (ax _ _ cr);have Z:=am _ _ ct;obtain⟨ip,bj,_⟩:=id S5.tbl;apply .inl (zd aa (v:=.ref h1) (qw (j:=0) rfl) ?_);apply .inl (zd aa (v:=.ref U) (qw (j:=1) rfl) ?_);show⟨y,h1,U,ss,ns,us,ws,tps,qs,rs,rfl,S5.web,hA,⟨Y,S5.pr.2⟩,gq,⟨Z,S5.ot.2⟩,gr,O,S5.tbl,fun D tl ps J6 X et fc eD bq C pw=>?_⟩;have S6:=S5.but X et;have n5:∀{b:Addr} {xs:List V},J5 b=some (.lst xs)->b≠tb:=fun e=>jD e bj (by intro z;cases z);apply⟨J5,n,l,r,o,D,ss,ts,us,ws,tl,tps,qs,rs,ps,rfl,S6.nm,hO,S6.tie,O,S6.pr,dq,S6.ot,dr,eD,bq,C,pw,fun J7 I=>?_⟩;have S7:=S6.same I;have bh:All2 (BtO J5 J7) tl ps:=bq.mono fun _ _ ⟨l',k0,k1,k2⟩=>⟨l',k0,I _ _ k1,I _ _ k2⟩;have cs:=I _ _ (X _ _ (n5 Y) Y);have cu:=I _ _ (X _ _ (n5 Z) Z);have cx:=I _ _ (X _ _ (n5 aa) aa);apply yq ?_;apply⟨by show 2<=sizeLine;decide,fun hb fk=>?_⟩;have B:=qF (Sr J7) (o:=.lst [.ref r,.ref o]) fk;have cv:upd J7 hb (.lst [.ref r,.ref o]) hb=some (.lst [.ref r,.ref o]):=qc;generalize upd J7 hb (.lst [.ref r,.ref o])=J8 at B cv;have S8:=S7.same B;have fz:h1≠r:=fun z=>by rw[z,S2.pr.1] at br;cases br
   have ga:U≠o:=fun z=>by rw[z,S3.ot.1] at bt;cases bt
   show lists_eq (B _ _ cx) cv (B _ _ cs) S8.pr.1 (B _ _ cu) S8.ot.1 fz ga ?_;show⟨_,rfl,qE (fun h=>by cases h) fun _=>?_⟩;ext;have L:All2 (BtO J5 J8) tl ps:=bh.mono fun _ _ ⟨l',k0,k1,k2⟩=>⟨l',k0,B _ _ k1,B _ _ k2⟩;have bo:=B _ _ (I _ _ eD);have g:∀ p∈ps,PtK ss (pt qs) (pt rs) p.1 p.2 (stN p):=fun p d=>Tw.ptk p (C.mem_iff.mp d);have fe:=Tw.apart C
   have fq:ps.length<=14:=yi (qbH fun p d=>(g p d).two) (yi (ji fe fun x hx=>by
    obtain⟨Yw,h1,U⟩:=YH.mp hx;obtain⟨p,d,rfl⟩:=yQ.mp h1;show(g p d).inn x U) hO.few)
   have bw:Shw (.list (ps.map prD)) (2 ^ 20) 60:=shw_parts hO fq fun p d=>⟨(g p d).kind.imp (fun h=>h.1) (fun h=>h.1),yi (ji (g p d).nd (g p d).inn) hO.few,(g p d).inn⟩;have fw:=L.len;show⟨.ref D,.list (ps.map prD),rfl,.lst bo (qau L),bw,?_⟩;generalize dv:(PyData.list (ps.map prD)).shown=kp
   have F8:Fd4 tb J5 J8 D tl (14+0):=⟨fun b o n e=>B _ _ (I _ _ (X b o n e)),S8.tbl,bo,fun t ht=>by
    obtain⟨j,hj⟩:=yf ht;obtain⟨p,d⟩:∃ p,ps[j]?=some p:=⟨_,yb (by rw[<- fw];show(yc.mp hj).1)⟩;obtain⟨l',k0,k1,k2⟩:=L.at_ j t p hj d;have ef:=ye d;show⟨p.1,l',p.2,k0,k1,k2,yi (ji (g p ef).nd (g p ef).inn) hO.few⟩⟩
   apply .inl ⟨⟨_,.of bo⟩,qR (xs:=tl.map V.ref) (fun k S G=>Fd4 tb J5 G D tl (14+k)/\∃ an,S=[some (.ref a),some (.ref n),some (.ref l),some (.ref y),some (.ref p),some (.ref n4),some (.ref l4),some (.ref e4),some (.ref o4),some (.ref D),some (.int (0+(i:Int))),some (.ref r),some (.ref o),some (.ref hd),some (.str kp),an,az]) ⟨F8,_,rfl⟩ (fun k S G _ d=>.of d.1.lst) (fun k y' S G el d=>?_) fun S G d=>?_⟩
   .obtain⟨FG,bm,rfl⟩:=d;rw[yd] at el;obtain⟨t',eg,rfl⟩:=yn.mp el;have gz:k<tl.length:=(yc.mp eg).1;have ei:=ye eg;obtain⟨w',lk,zz,k0,k1,k2,k3⟩:=FG.inn t' ei;apply .inl (zo k1 rfl ?_);show⟨.inl ⟨rfl,_,SqL.of k2⟩,?_⟩;apply⟨lk,_,_,rfl,rfl,k2,by rw[ya];show qi (by lk),?_⟩;rw[show(zz.map V.str)++[V.str ""]=(zz++[("":Str)]).map V.str by rw[yE];rfl];show⟨FG.add ⟨_,bj⟩ ei k0 k1 k2 k3 "",_,rfl⟩
   obtain⟨FG,bm,rfl⟩:=d;apply⟨.inl ⟨rfl,_,SqL.of FG.lst⟩,?_⟩;apply⟨by show 0<=sizeLine;decide,fun le fn=>?_⟩;have s9:=qF (Sr G) (o:=.lst []) fn;generalize upd G le (.lst [])=J9 at s9;apply⟨by show 2<=sizeLine;decide,fun te fv=>?_⟩;have ak:=s9.trans (qF (Sr J9) (o:=.tup [.str "row",.ref le]) fv);generalize upd J9 te (.tup [.str "row",.ref le])=J10 at ak;show⟨D,_,_,rfl,rfl,ak _ _ FG.lst,by rw[ya];show qi (by lk),?_⟩
   have bn:qcy tb J5 (upd J10 D (.lst (tl.map V.ref++[.ref te]))):=fun b N n e=>by
    rw[qh (fun z=>by rw[z,fc] at e;cases e)];show ak _ _ (FG.but b N n e)
   have T11:TbB (upd J10 D (.lst (tl.map V.ref++[.ref te]))) tb:=qav (FG.tbl.same ak) fun b N e no=>by
    rw[qh (fun z=>by rw[z,ak _ _ FG.lst] at e;show no _ (ym e).symm)];show e
   generalize upd J10 D (.lst (tl.map V.ref++[.ref te]))=J11 at bn T11;have S11:=S5.but bn T11;clear F8 FG bq bh L;apply⟨y,o,r,ss,ns,ws,us,tps,rs,qs,rfl,S11.web,hA,S11.ot,gr,S11.pr,gq,O,S11.tbl,fun D2 ig hs J12 ba T12 gp ex di ae gj=>?_⟩;rw[pts_swap] at ae;obtain rfl:=Tw.order C ae pw gj;have S12:=S11.but ba T12;apply⟨.ref D2,.list (ps.map prD),rfl,.lst ex (qau di),bw,?_⟩;rw[dv];ext;have cy:(if true=true then !eqV (V.str kp) (V.str kp) else eqV (V.str kp) (V.str kp))=false:=by simp[eqV]
   show .inl ⟨rfl,rfl,?_⟩;rw[cy];apply yq ?_;apply vRvL ?_;apply⟨1,rfl,?_⟩;apply⟨rfl,r,_,rfl,SqL.of S12.pr.1,fun rv ft=>?_⟩;have al:=qF (Sr J12) (o:=.lst (us.map V.ref).reverse) ft;have dc:upd J12 rv (.lst (us.map V.ref).reverse) rv=some (.lst (us.reverse.map V.ref)):=by rw[List.map_reverse];show qc
   generalize upd J12 rv (.lst (us.map V.ref).reverse)=J13 at al dc;have S13:=S12.same al;apply⟨y,rv,o,ss,ns,us.reverse,ws,tps,qs.reverse,rs,rfl,S13.web,hA,⟨dc,all2_rev S13.pr.2⟩,qbG O dq.rev,S13.ot,gr,O,S13.tbl,fun D3 ih hw J14 ci T14 gs ey dj af gk=>?_⟩;rw[pt_rev dq.nd] at af;obtain rfl:=Tw.order C af pw gk;have S14:=S13.but ci T14;apply⟨.ref D3,.list (ps.map prD),rfl,.lst ey (qau dj),bw,?_⟩;rw[dv];apply .inl ⟨rfl,rfl,?_⟩;rw[cy];apply yq ?_;apply .inl ⟨r,_,rfl,.inl (.of S14.pr.1),fun ar ff=>?_⟩;have bz:=qF (Sr J14) (o:=.lst (us.map V.ref)) ff;have cn:upd J14 ar (.lst (us.map V.ref)) ar=some (.lst (us.map V.ref)):=qc;generalize upd J14 ar (.lst (us.map V.ref))=J15 at bz cn;have S15:=S14.same bz;apply⟨y,r,ar,ss,ns,us,us,tps,qs,qs,rfl,S15.web,hA,S15.pr,gq,⟨cn,S15.pr.2⟩,gq,O,S15.tbl,fun D4 ii ia J16 cj T16 gt ez dk ag ic=>?_⟩;rw[qdk] at ag;obtain rfl:=List.perm_nil.mp ag;obtain rfl:=Xq.mp dk.len;have S16:=S15.but cj T16;apply⟨by show 0<=sizeLine;decide,fun f4 fi=>?_⟩;have av:=qF (Sr J16) (o:=.lst []) fi;have cp:upd J16 f4 (.lst []) f4=some (.lst []):=qc;generalize upd J16 f4 (.lst [])=J17 at av cp;have S17:=S16.same av;show qdb (av _ _ ez) cp ?_;show⟨_,rfl,qE (fun h=>by cases h) fun _=>?_⟩;apply⟨y,r,r,ss,ns,us,us,tps,qs,qs,rfl,S17.web,hA,S17.pr,gq,S17.pr,gq,O,S17.tbl,fun D5 ij ib J18 ck T18 gu fa dl ai ie=>?_⟩;rw[qdk] at ai;obtain rfl:=List.perm_nil.mp ai;obtain rfl:=Xq.mp dl.len;have S18:=S17.but ck T18;apply⟨by show 0<=sizeLine;decide,fun f5 fj=>?_⟩;have aw:=qF (Sr J18) (o:=.lst []) fj;have cq:upd J18 f5 (.lst []) f5=some (.lst []):=qc;generalize upd J18 f5 (.lst [])=J19 at aw cq;have S19:=S18.same aw;show qdb (aw _ _ fa) cq ?_;show⟨_,rfl,qE (fun h=>by cases h) fun _=>?_⟩;have ev:qcy tb J2 J19:=fun b N n e=>aw _ _ (ck _ _ n (av _ _ (cj _ _ n (bz _ _ (ci _ _ n (al _ _ (ba _ _ n (bn _ _ n (am _ _ (ax _ _ (ca _ _ e)))))))))));apply⟨r,_,rfl,.inl ⟨SqL.of S19.pr.1,fun tq ek=>?_⟩⟩;have x1:=qF (Sr J19) (o:=.tup (us.map V.ref)) ek;have dg:upd J19 tq (.tup (us.map V.ref)) tq=some (.tup (us.map V.ref)):=qc;have gi:tq≠p:=S19.box.apart ek;generalize upd J19 tq (.tup (us.map V.ref))=G1 at x1 dg;have Z1:=S19.same x1;apply⟨by show 2<=sizeLine;decide,fun ta eh=>?_⟩;have x2:=qF (Sr G1) (o:=.tup [.str "A",.str "B"]) eh;have df:upd G1 ta (.tup [.str "A",.str "B"]) ta=some (.tup [.str "A",.str "B"]):=qc;have gh:ta≠p:=Z1.box.apart eh;generalize upd G1 ta (.tup [.str "A",.str "B"])=G2 at x2 df;have Z2:=Z1.same x2;apply⟨by show 1<=sizeLine;decide,fun la dy=>?_⟩;have x3:=qF (Sr G2) (o:=.lst [.ref ta]) dy;have cz:upd G2 la (.lst [.ref ta]) la=some (.lst [.ref ta]):=qc;have ge:la≠p:=Z2.box.apart dy;generalize upd G2 la (.lst [.ref ta])=G3 at x3 cz;have Z3:=Z2.same x3;apply⟨by show 1<=sizeLine;decide,fun ln fo=>?_⟩;have x4:=qF (Sr G3) (o:=.lst [.non]) fo;have db:upd G3 ln (.lst [.non]) ln=some (.lst [.non]):=qc;generalize upd G3 ln (.lst [.non])=G4 at x4 db;have Z4:=Z3.same x4;have hq:us.length<=30:=by rw[Z4.pr.2.len];show dq.few
   show .inl ⟨r,ln,_,_,rfl,rfl,Z4.pr.1,db,by rw[ya];show yP (qi (by show us.length+1<=1000;lk)),fun lc dz=>?_⟩;have x5:=qF (Sr G4) (o:=.lst (us.map V.ref++[.non])) dz;have da:upd G4 lc (.lst (us.map V.ref++[.non])) lc=some (.lst (us.map V.ref++[.non])):=qc;have gf:lc≠p:=Z4.box.apart dz;generalize upd G4 lc (.lst (us.map V.ref++[.non]))=G5 at x5 da;have Z5:=Z4.same x5;ext;intro dd dp;have x6:=qF (Sr G5) (o:=.dK []) dp;have co:upd G5 dd (.dK []) dd=some (.dK []):=qc;have gc:dd≠p:=Z5.box.apart dp;generalize upd G5 dd (.dK [])=G6 at x6 co;have Z6:=Z5.same x6;apply⟨by show 6<=sizeLine;decide,fun lb fm=>?_⟩;have x7:=qF (Sr G6) (o:=.lst [.non,.ref tq,.ref la,.ref lc,.ref dd,.int 0]) fm;have bp:upd G6 lb (.lst [.non,.ref tq,.ref la,.ref lc,.ref dd,.int 0]) lb=some (.lst [.non,.ref tq,.ref la,.ref lc,.ref dd,.int 0]):=qc;generalize upd G6 lb (.lst [.non,.ref tq,.ref la,.ref lc,.ref dd,.int 0])=G7 at x7 bp;have Z7:=Z6.same x7;have bf:=x7 _ _ (x6 _ _ (x5 _ _ (x4 _ _ (x3 _ _ (x2 _ _ dg)))));have be:=x7 _ _ (x6 _ _ (x5 _ _ (x4 _ _ (x3 _ _ df))));have bc:=x7 _ _ (x6 _ _ (x5 _ _ (x4 _ _ cz)));have bd:=x7 _ _ (x6 _ _ da);have bb:=x7 _ _ co;have es:L2.Same J19 G7:=fun b N e=>x7 _ _ (x6 _ _ (x5 _ _ (x4 _ _ (x3 _ _ (x2 _ _ (x1 _ _ e))))))
   have eo:∀ z∈us.map V.ref,Ok p G7 1 20 1 z:=fun z hz=>by
    obtain⟨u,fx,rfl⟩:=yQ.mp hz;obtain⟨j,hj⟩:=yf fx;obtain⟨ab,dh⟩:∃ ab,qs[j]?=some ab:=⟨_,yb (by rw[<- Z7.pr.2.len];show(yc.mp hj).1)⟩;have eu:=Z7.pr.2.at_ j u ab hj dh;obtain⟨_,m1,m2,_⟩:=gq.inn ab (ye dh);show(Ok.tup (k:=0) (n:=6) (m:=0) eu (Z7.box.neT eu) (by show 2<=1000;decide) (qgc (Ok.name (hO.nm _ m1)) (Ok.name (hO.nm _ m2)))).mono (by show 7*2<=20;decide) (yh _)
   have ew:∀ v∈[V.non,.ref tq,.ref la,.ref lc,.ref dd,.int 0],Ok p G7 3 4000 6 v/\apV G7 ss tps v=false:=fun v hv=>by
    simp only[yA,yS,YN] at hv;rcases hv with rfl | rfl | rfl | rfl | rfl | rfl
    .show⟨Ok.non,rfl⟩
    .show⟨(Ok.deep (Ok.tup (k:=1) (n:=20) (m:=1) bf gi (by rw[ya];lk) eo)).mono (by rw[ya];lk) (by decide),?_⟩;unfold apV;dsimp only;rw[bf]
    .have oA:Ok p G7 1 20 1 (.ref ta):=(Ok.tup (k:=0) (n:=6) (m:=0) be gh (by show 2<=1000;decide) (qgc (Ok.str (by room) (by room) (by room)) (Ok.str (by room) (by room) (by room)))).mono (by show 7*2<=20;decide) (yh _);show⟨(Ok.deep (Ok.lst (k:=1) (n:=20) (m:=1) bc ge (by show 1<=1000;decide) (qgb oA))).mono (by show 21*1<=4000;decide) (by decide),?_⟩;rw[qa4 bc]
     have e1:qcg G7 ss (.ref ta)=none:=by
      rw[qdh be,yB]
      have:zU ss (.str "A")=false:=by
       unfold zU;rw[yB (by room)]
      unfold qdt;rw[this];show Yh
     have e2:qa7 G7 ss tps (.ref ta)=none:=by unfold qa7;rw[e1]
     unfold apL;rw[e2]
    .show⟨(Ok.deep (Ok.lst (k:=1) (n:=20) (m:=1) bd gf (by rw[yz,ya];show us.length+1<=1000;lk) fun z hz=>?_)).mono (by rw[yz,ya];show 21*(us.length+1)<=4000;lk) (by decide),?_⟩
     .rcases yH.mp hz with k | k
      .show eo z k
      .rw [yx.mp k];show Ok.non
     .rw [qa4 bd];show qd9
    .show⟨(Ok.dnil (m:=5) bb gc),?_⟩;unfold apV;dsimp only;rw[bb]
    .show⟨Ok.int (by decide) (by decide),rfl⟩
   show .inl ⟨⟨_,.of bp⟩,qR (xs:=[.non,.ref tq,.ref la,.ref lc,.ref dd,.int 0]) (fun k S G=>L2.Same G7 G/\∃ ao,S=[some (.ref a),some (.ref n),some (.ref l),some (.ref y),some (.ref p),some (.ref n4),some (.ref l4),some (.ref e4),some (.ref o4),some (.ref D),some (.int (0+(i:Int))),some (.ref r),some (.ref o),some (.ref hd),some (.str kp),bm,ao]) ⟨L2.Same.refl G7,_,rfl⟩ (fun k S G _ d=>.of (d.1 _ _ bp)) (fun k v S G hv d=>?_) fun S G d=>?_⟩
   .obtain⟨sG,ao,rfl⟩:=d;obtain⟨bv,dm⟩:=ew v (ye hv);have dn:BdA p cw G7 y ss ns tps v:=⟨Z7.web,hA,bv.1,dm⟩;apply⟨by show 1<=sizeLine;decide,fun en fh=>?_⟩;have y1:=sG.trans (qF (Sr G) (o:=.lst [.non]) fh);generalize upd G en (.lst [.non])=G8 at y1;apply⟨p,y,ss,ns,tps,v,_,v,rfl,dn.same y1,bv.same y1,.inl rfl,fun G9 y2=>?_⟩;have ay:=y1.trans y2;apply yq ?_;apply⟨p,y,ss,ns,tps,.ref r,v,v,rfl,dn.same ay,bv.same ay,.inr ⟨⟨r,us,qs,rfl,Z7.pr.same ay,gq⟩,rfl⟩,fun G10 y3=>?_⟩;apply yq ?_;apply⟨ay.trans y3,_,rfl⟩
   .obtain⟨sG,ao,rfl⟩:=d;have ZG:=Z7.same sG;have bG:qcy tb J2 G:=fun b N n e=>sG _ _ (es _ _ (ev b N n e));show⟨by lk,ch.keep fun c N n e=>bG c N (fun z=>n (.inr z)) e,ZG.nm,ZG.tie,ZG.tbl,ZG.box.mono (by lk),_,_,_,_,_,_,_,_,rfl⟩
  .obtain⟨_,WJ,nJ,PJ,TJ,BJ,z9,cb,cd,ce,cf,cg,an,az,rfl⟩:=d;apply q J
end
theorem all_mk{l:W.OpenLaw}{h:Heap}{fa b cB bm f m d:Addr}{z A B:Tok}(X:K.In h)(G:h.Ns mainGlobals mg)(P:mg "law"=some (.ref fa))
  (C0_:W.nsIn K mainGlobals "NoPairs"=some (some (.ref f)))
  (C1_:W.nsIn K mainGlobals "NoRow"=some (some (.ref m)))
  (C2_:W.nsIn K mainGlobals "OnceError"=some (some (.ref d)))
  (Cw_:W.nsIn K mainGlobals "Web"=some (some (.ref b)))
  (uZ:FG K "are_pairs" jV)
  (uJ:FG K "partners_in" jB)
  (Uc:FGC K "between" jl cB)
  (uD:FG K "near_between" jk)
  (Um:FG K "walked" qaq)
  (Ud:FG K "is_name" jU)
  (Ue:FG K "has_bit" qak)
  (u6:FG K "is_place" zf)
  (ux:FG K "are_two_places" qP)
  (uU:FG K "numbers_of" j3)
  (Uf:FG K "near_of" qal)
  (U4:FG K "_law_at" qdd)
  (U0:FG K "_law_box" qbx)
  (Uo:FG K "_law_take" qaM)
  (Ug:FG K "_law_names" jW)
  (U1:FG K "_law_web" qbz)
  (uK:FG K "_law_more_ties" jC)
  (Uh:FG K "_law_pairs" qap)
  (uV:FG K "_law_partners" j6)
  (u7:FG K "_law_unlike" zP)
  (uE:FG K "_law_part_right" qI)
  (uy:FG K "_law_parts_right" qW)
  (Up:FG K "_law_very" qas)
  (u3:FG K "_law_refused" zw)
  (Uq:FG K "_law_ring" zx)
  (U9:FG K "law" qcG)
  (vv:FM K f "__init__" "NoPairs.__init__" jI)
  (vw:FC K d "__init__" "OnceError.__init__" jm)
  (vx:FM K b "__init__" "Web.__init__" zM)
  (u8:FM K b "places" "Web.places" j4)
  (Ur:FM K b "ties" "Web.ties" qbi)
  (uL:FM K b "has_place" "Web.has_place" jx)
  (u4:FM K b "has_tie" "Web.has_tie" jz)
  (uM:FM K b "number_of" "Web.number_of" jy)
  (u9:FM K b "beside" "Web.beside" j5)
  (uz:FM K b "bits_beside" "Web.bits_beside" qY)
  (Us:FM K b "tied" "Web.tied" zN)
  (uW:FM K b "names_in" "Web.names_in" jh)
  (X0:XL K f (.ref d::qb7))
  (q0:XQ K f)
  (X1:XL K m (.ref d::qb7))
  (q1:XQ K m)
  (X2:XL K d qb7)
  (q2:XQ K d)
  (y0:W.findIn K (.ref f) "found"=some none)
  (y1:W.findIn K (.ref m) "found"=some none)
  (U:W.mroIn K f (.ref d)=some true)
  (Y:W.mroIn K m (.ref d)=some true)
  (nd:([f,m]++[d]).Nodup)
  (r1:W.readsIn K d (.type "type")=true)
  (r3:W.specialIn K (.ref d) "__getattribute__"=some (some (.builtin "type.__getattribute__")))
  (v1:W.findIn K (.type "type") "__getattribute__"=some (some (.builtin "type.__getattribute__")))
  (v3:W.subIn K (.type "type") (.type "type")=some true)
  (v4:W.findCls K (.type "ValueError") (.type "type") "__init__"=some (.val (.builtin "ValueError.__init__")))
  (w1:W.plainGet K b Str.empty=true)
  (w2:W.hasDictIn K b=true)
  (w3:W.plainOver K b=true)
  (w4:W.findIn K (.ref b) "__setattr__"=some (some (.builtin "object.__setattr__")))
  (w5:W.makesIn K b=true)
  (w6:W.keepIn K (.ref b)=true)
  (w7:W.findIn K (.ref b) "numbers"=some none)
  (w8:W.findIn K (.ref b) "order"=some none)
  (w9:W.findIn K (.ref b) "near"=some none)
  (q:W.specialIn K (.builtin "object.__class__") "__get__"=some (some (.builtin "getset_descriptor.__get__")))
  (r:W.takesIn K (.builtin "object.__class__")=some true)
  (ag:W.nsIn K mainGlobals "sorted"=some none)
  (D:W.nsIn K mainGlobals "repr"=some none)
  (af:W.nsIn K mainGlobals "set"=some none)
  (aa:(K.lookup sysModules).isSome=true)
  (Z:W.mroIn K f (.ref f)=some true)
  (x:qfQ K cB tb=true)
  (u:W.nsIn K mainGlobals "__builtins__"=some (some (.ref bm)))
  (t:bmB K bm tb=true)
  (z0:W.nsIn K mainGlobals "len"=some none)
  (z1:W.nsIn K mainGlobals "int"=some none)
  (z2:W.nsIn K mainGlobals "enumerate"=some none)
  (z3:W.nsIn K mainGlobals "all"=some none)
  (z4:W.nsIn K mainGlobals "max"=some none)
  (z5:W.nsIn K mainGlobals "min"=some none)
  (z6:W.nsIn K mainGlobals "isinstance"=some none)
  (z7:W.nsIn K mainGlobals "bool"=some none)
  (z8:W.nsIn K mainGlobals "str"=some none)
  (z9:W.nsIn K mainGlobals "range"=some none)
  (ac:W.nsIn K mainGlobals "list"=some none)
  (ad:W.nsIn K mainGlobals "tuple"=some none)
  (ae:W.nsIn K mainGlobals "ValueError"=some none)
  (u0:W.nsIn K mainGlobals "LONGEST_NAME"=some (some (.int 6 z)))
  (u1:W.nsIn K mainGlobals "MOST_PLACES"=some (some (.int 14 A)))
  (u2:W.nsIn K mainGlobals "MOST_TIES"=some (some (.int 30 B))) :
  ∃ fd:FuncData,(∀(s:Shared) (v:Value),BindsTo s fd ⟨[v],[]⟩ [("_law_script",v)])/\∀ base:Heap,K.In base->base.Ns mainGlobals mg->FnOk l.prog w K mg base CX0 14 fa fd ["_law_script"] (spLawT K tb):=by
 obtain⟨_,_,uw,F⟩:=uZ;obtain⟨_,_,uv,C⟩:=uJ;obtain⟨_,_,uH,H,y⟩:=Uc;obtain⟨_,_,uF,Ux⟩:=uD;obtain⟨_,_,Ut,Uy⟩:=Um;obtain⟨_,_,uI,I⟩:=Ud;obtain⟨_,_,Ui,Uz⟩:=Ue;obtain⟨_,_,uB,J⟩:=u6;obtain⟨_,_,uu,L⟩:=ux;obtain⟨_,_,uX,UA⟩:=uU;obtain⟨_,_,Uj,UB⟩:=Uf;obtain⟨_,_,U5,UC⟩:=U4;obtain⟨_,_,U2,UD⟩:=U0;obtain⟨_,_,Uu,UE⟩:=Uo;obtain⟨_,_,Uk,UF⟩:=Ug;obtain⟨_,_,U3,UG⟩:=U1;obtain⟨_,_,uN,UH⟩:=uK;obtain⟨_,_,Ul,UI⟩:=Uh;obtain⟨_,_,uY,UJ⟩:=uV;obtain⟨_,_,Ua,UK⟩:=u7;obtain⟨_,_,uG,UL⟩:=uE;obtain⟨_,_,uC,UM⟩:=uy;obtain⟨_,_,Uv,N⟩:=Up;obtain⟨_,_,u5,UO⟩:=u3;obtain⟨_,_,Uw,UP⟩:=Uq;obtain⟨_,_,va,UQ⟩:=U9;obtain⟨_,_,vy,vz,U6⟩:=vv;obtain⟨_,_,vA,U7⟩:=vw;obtain⟨_,_,vD,vE,U8⟩:=vx;obtain⟨_,_,vb,vc,UR⟩:=u8;obtain⟨_,_,_,_,_⟩:=Ur;obtain⟨_,_,vd,ve,US⟩:=uL;obtain⟨_,_,UT,UU,M⟩:=u4;obtain⟨_,_,vf,vg,UV⟩:=uM;obtain⟨_,_,vh,vi,UW⟩:=u9;obtain⟨_,_,vk,vm,UX⟩:=uz;obtain⟨_,_,vn,vo,UY⟩:=Us;obtain⟨_,_,vp,vq,UZ⟩:=uW;have e:=P.symm.trans (XJ X G va);cases e;have Y0:XAt K f:=qe2 X0 qdP q0 q r;have Y1:XAt K m:=qe2 X1 qdP q1 q r;have Y2:XAt K d:=qe2 X2 qdO q2 q r;obtain⟨R,ai,S,aj⟩:=kits nd (fun i g=>match i,g with | 0,_=>X0 | 1,_=>X1 | n+2,h=>absurd h (by simp only[yC,Yn];lk)) X2;have c:Cls K b:=⟨w1,w2,w3,w4⟩;have p:∀ i,i<3->([f,m,d]:LI).getD i d=([f,m]:LI).getD i d:=fun i g=>match i,g with | 0,_=>rfl | 1,_=>rfl | 2,_=>rfl | n+3,h=>absurd h (by lk);have T:Txt K mg (fun i=>([f,m,d]:LI).getD i d) b:=⟨YG X G z0,
  YG X G z1,
  YG X G z2,
  YG X G z3,
  YG X G z4,
  YG X G z5,
  YG X G z6,
  YG X G z7,
  YG X G z8,
  YG X G z9,
  YG X G ac,
  YG X G ad,
  YG X G ae,
  ⟨z,XJ X G u0⟩,
  ⟨A,XJ X G u1⟩,
  ⟨B,XJ X G u2⟩,
  XJ X G C0_,
  XJ X G C1_,
  XJ X G C2_,
  ⟨v1,v3,v4⟩,
  fun i g=>match i,g with | 0,_=>Y0 | 1,_=>Y1 | 2,_=>Y2 | n+3,h=>absurd h (by lk),
  fun i g=>match i,g with | 0,_=>y0 | 1,_=>y1 | n+2,h=>absurd h (by lk),
  (fun i j g hj=>by rw[p i (by lk),p j (by lk)];show R i j g hj),
  (fun i g=>by rw[p i (by lk)];show S i g),
  fun i g=>match i,g with | 0,_=>U | 1,_=>Y | n+2,h=>absurd h (by lk),
  c,
  w7,
  w8,
  w9,
  XJ X G Cw_,
  YG X G ag,
  YG X G D,
  YG X G af,
  Xg.mp aa⟩
 obtain⟨oc,od,kV,O,pm,an,cd,ct,sl,rfl,lk,hc⟩:=UQ.ex;show⟨W.fnOf "law" "law" (zV qcG) (jE qcG) (qg qcG) .none kV O pm an cd ct,fun s v=>.of_eq rfl,fun base E nb=>?_⟩;have d_once:CMethOk l.prog w K mg base CX0 1 d "OnceError" "__init__" ["self","text"] (spOnce K):=fc_mk X G C2_ r1 vA r3 U7 (ok_once U7 T);have d0:XMakeOk l.prog w K mg base 2 f "NoPairs" ["self","found"] (spX f (qe3 0)):=fx_mk X G C0_ Y0 q0 vy vz U6 (ok_NoPairs U6 T d_once);have a:=@fg_mk l.prog w K mg base h;have o:=@fm_mk l.prog w K mg base;have fw:=@fw_mk l.prog w K mg base h;have d_name:=a X G uI I (ok_name I T);have d_place:=a X G uB J (ok_place J d_name);have d_two:=a X G uu L (ok_two L T d_place);have d_bit:=a X G Ui Uz (ok_bit Uz);have d_nums:=a X G uX UA (ok_nums UA T d_name);have d_near:=a X G Uj UB (ok_near UB T d_two d_bit);have q_web:MakeOk l.prog w K mg base CX0 5 b "Web" ["self","names","ties"] (spWeb b):=fw X G Cw_ w5 w6 vD vE U8 (ok_web U8 T d_nums d_near);have m_has:=o c vd ve US (ok_has US T d_place);have m_num:=o c vf vg UV (ok_num UV T m_has);have m_bb:=o c vk vm UX (ok_bb UX T m_num);have m_nin:=o c vp vq UZ (ok_nin UZ T d_bit);have m_bs:=o c vh vi UW (ok_bs UW T m_bb m_nin);have m_tied:=o c vn vo UY (ok_tied UY T m_bb m_num d_bit);have m_pls:=o c vb vc UR (ok_pls UR T);have m_ht:=o c UT UU M (ok_ht M T d_two m_tied);have d_ap:=a X G uw F (ok_ap F T m_ht);have d_pn:=a X G uv C (qfw C T d_ap);have d_nb:=a X G uF Ux (ok_nb Ux T m_pls m_bs);have d_wk:=a X G Ut Uy (ok_wkd Uy T);have d_bt:=a X G uH H (ok_bt H T y (chd_of E x) (qfv E (XJ X G u) t) d_nb d_pn d_wk m_pls m_num);have b_name:=a X G uI I (ok_nameG I T);have b_place:=a X G uB J (ok_placeG J b_name);have b_two:=a X G uu L (ok_twoG L T b_place);have b_ht:=o c UT UU M (ok_htG M T b_two m_tied);have b_ap:=a X G uw F (ok_apG F T b_ht);have g_pn:DefOk l.prog w K mg base (CX1 l.prog w) 9 "partners_in" ["web","pairs"] (qfy (fun i=>([f,m,d]:LI).getD i d) b):=a X G uv C (FnOk.or (qfw C T d_ap).any (ok_pnB C T d0 b_ap));have b_bt:=a X G uH H (ok_btB H T y (chd_of E x) (qfv E (XJ X G u) t) d_nb g_pn d_wk m_pls m_num);have w_vy:DefOkW l.prog w K mg base 1 "_law_very" ["_law_found","_law_thing"] spVy:=⟨_,_,ok_vy N T,XJ X G Uv,N.kp,N.binds (fun _ _ _ _ _ _=>lN2 fun _ _=>rfl)⟩;have d_rf:=a X G u5 UO (ok_rfB UO T Z b_bt w_vy);have d_tk:=a X G Uu UE (ok_tkp UE T);have d_at:=a X G U5 UC (ok_ce UC T);have d_bx:=a X G U2 UD (ok_pu UD T);have d_pt:=a X G uY UJ (ok_ptA UJ T);have d_nm:=a X G Uk UF (ok_nmA UF T d_tk);have d_ps:=a X G uC UM (ok_ps UM T d_pt (a X G Ua UK (ok_un UK T)) (a X G uG UL (ok_prt UL T))) (hb:=fun _ _ _ _ _ _=>lN5 fun _ _ _ _ _=>rfl);show ok_law24 UQ T (a X G U3 UG (ok_wbA UG T d_at d_bx d_tk d_nm (a X G uN UH (ok_mtA UH T d_tk)))) q_web d_bx d_at (a X G Ul UI (ok_prA UI T d_tk)) (a X G Uw UP (ok_rg UP T d_tk d_nm)) d_bt d_ps d_rf
theorem walk{l:PySem.W.OpenLaw}{q:Program}{loose:LS}{XP:(Str->Option Value)->Heap->Prop}{YP:World->Heap->Prop}{d:DefRec}{K:Params->yg}(m:l.most=some 63)(b:d.params.defaults=[])
  (j:∀(w:World) (h:Heap),YP w h->(K w.params).In h/\h.TableAt 194 190 #[]) (e:∀ w:World,(K w.params).lookup 190=none)
  (F:∀(w:World) (mg:Str->Option Value) (g:Addr) (h:Heap),(K w.params).In h->h.Ns mainGlobals mg->mg d.name=some (.ref g) ->
   ∃ fd:FuncData,(∀(s:Shared) (u:Value),BindsTo s fd ⟨[u],[]⟩ [("_law_script",u)])/\∀ base:Heap,(K w.params).In base->base.Ns mainGlobals mg->FnOk l.prog w (K w.params) mg base CX0 14 g fd ["_law_script"] (spLawT (K w.params) 190)) :
  PySem.W.WalkO q loose XP YP l.row.toRowW d [] (fun f vs=>PySem.call f vs):=
 L2.walk_ofT (c:=194) (p:=190) (ps:=#[]) (n:=63) (k:=14) (x:="_law_script") (CX:=fun _=>CX0) (sp:=fun w=>spLawT (K w.params) 190) m (by decide) b ⟨rfl,by decide,by decide,rfl⟩ j e F (fun _ _ a ns hl o i=>⟨a,ns,rfl,i,hl,⟨#[],o,trivial,.inl rfl⟩,fun _=>rfl⟩) fun _ _ _ _ _ z=>z
end K24
set_option maxRecDepth 100000 in
set_option maxHeartbeats 0 in
theorem PySem.Challenge.cw_onceroad_k24_between_two_pairs_holds : PySem.Challenge.rw_onceroad_k24_between_two_pairs.Holds := by
  w_on; o_law
  show PySem.W.holds_open (q := K24.Q) (loose := []) (Xt := K24.Xt) (XP := PySem.W.XL K24.Q []) (Yf := PySem.W.Hook.obs K24.Hk) (Ya := PySem.W.Hook.val K24.Hk) (YP := PySem.W.Hook.says (L2.hookT K24.Kf K24.ks K24.ks_eq 190 (PySem.W.tabObj #[]))) (N := K24.NN) K24.hl (PySem.W.Hook.of K24.Hk) (PySem.W.Hook.keeps K24.Hk) (fun s e => PySem.W.xl_of s (Bool.and_eq_true_iff.mp e).1) PySem.W.XL.keeps (by rfl) (by rfl) (by rfl) (fun s e => PySem.W.recFacts_of (Bool.and_eq_true_iff.mp e).2) (by rfl) (by first | assumption | room) (by room) ⟨rfl, rfl, rfl, rfl, rfl, by room⟩ ?hw ?hc
  (case hw => w_witness2)
  k_fill
  show K24.walk (l := PySem.Challenge.rw_onceroad_k24_between_two_pairs) rfl rfl (fun w h Y => ⟨PySem.W.kIn_of Y.1, (L2.chd_of (K := K24.Kf w.params) (PySem.W.kIn_of Y.1) (by kernel_rfl)).tab Y.2⟩) (fun w => by kernel_rfl) ?F
  case F =>
    intro w mg fa h KX G hmg
    refine' K24.all_mk KX G hmg ?_ ?_ ?_ ?_ ?_ ?_ ?_ ?_ ?_ ?_ ?_ ?_ ?_ ?_ ?_ ?_ ?_ ?_ ?_ ?_ ?_ ?_ ?_ ?_ ?_ ?_ ?_ ?_ ?_ ?_ ?_ ?_ ?_ ?_ ?_ ?_ ?_ ?_ ?_ ?_ ?_ ?_ ?_ ?_ ?_ ?_ ?_ ?_ ?_ ?_ ?_ ?_ ?_ ?_ ?_ ?_ ?_ ?_ ?_ ?_ ?_ ?_ ?_ ?_ ?_ ?_ ?_ ?_ ?_ ?_ ?_ ?_ ?_ ?_ ?_ ?_ ?_ ?_ ?_ ?_ ?_ ?_ ?_ ?_ ?_ ?_ ?_ ?_ ?_ ?_ ?_ ?_ ?_
    any_goals first | k_is | decide
    any_goals first | k_is | decide | show⟨_, _, by k_is, L2.fun_mk (by k_is) (by k_is) (by k_is), rfl⟩ | show⟨_, _, by k_is, L2.fun_mk (by k_is) (by k_is) (by k_is)⟩ | show⟨_, _, by k_is, by k_is, L2.fun_mk (by k_is) (by k_is) (by k_is)⟩ | show⟨_, _, _, _, _, _, _, _, _, _, _, _, _, _, _, by k_is⟩ | show⟨by k_is, by k_is, by k_is, by k_is, by k_is, by k_is, by k_is, by k_is⟩ | kernel_rfl | fail
