import PyProof.Rows.All
import Wide.All
import OpenK.AllK
import Wide.FinOn
import PyProof.EqAt
import PyProof.EqKinds
import PyProof.TupleCall
import Lean
import PySem.Challenge.RW_onceroad_k52_winners_of_small_webs
set_option Elab.async false
set_option linter.all false
set_option maxRecDepth 100000
theorem ya {α β:Type} {as:List α} (f:α→β):(as.map f).length=as.length:=List.length_map f
theorem yb {α:Type} {l:List α} {i:Nat} (h:i<l.length):l[i]?=some l[i]:=List.getElem?_eq_getElem h
theorem yc {α:Type} {l:List α} {i:Nat} {a:α}:l[i]?=some a↔∃h:i<l.length,l[i]=a:=List.getElem?_eq_some_iff
theorem yd {α β:Type} {f:α→β} {l:List α} {i:Nat}:(l.map f)[i]?=l[i]?.map f:=List.getElem?_map
theorem ye {α:Type} {l:List α} {i:Nat} {a:α} (h:l[i]?=some a):a∈l:=List.mem_of_getElem? h
theorem yf {α:Type} {a:α} {l:List α} (h:a∈l):∃i:Nat,l[i]?=some a:=List.getElem?_of_mem h
noncomputable abbrev yg:=PySem.W.Frag
theorem yh (n:Nat):n≤n:=Nat.le_refl n
theorem yi {a b c:Nat} (h:a≤b) (k:b≤c):a≤c:=Nat.le_trans h k
theorem yj {a b c:Nat} (h:a<b) (k:b≤c):a<c:=Nat.lt_of_lt_of_le h k
theorem yk {p:Prop} [Decidable p] (h:decide p=true):p:=of_decide_eq_true h
theorem yl {p:Prop} [Decidable p] (h:¬p):decide p=false:=decide_eq_false h
theorem ym {α:Type} {a b:α} (h:some a=some b):a=b:=Option.some.inj h
theorem yn {α β:Type} {f:α→β} {x:Option α} {b:β}:x.map f=some b↔∃a,x=some a∧f a=b:=Option.map_eq_some_iff
theorem yo {α:Type} {a:α} {l:List α}:(a::l).Nodup↔a∉l∧l.Nodup:=List.nodup_cons
theorem yp {α:Type} {p:α→Bool} {as:List α} {x:α}:x∈as.filter p↔x∈as∧p x=true:=List.mem_filter
theorem yq {A B:Prop} (h:B):if false=true then A else B:=h
def yr:=@PySem.wpAny_bind
def yt:=@List.length_append
def yu:=@PySem.wpAny_pure
def yv:=@PySem.Heap.get?_push_of_some
def yw:=@List.size_toArray
def yx:=@List.mem_cons
def yy:=@if_neg
def yz:=@List.mem_append
def yA:=@List.mem_cons_of_mem
def yB:=@List.mem_singleton
def yC:=@List.length_cons
def yD:=@List.getElem?_append_right
def yE:=@if_pos
def yF:=@Nat.ne_of_lt
def yG:=@List.map_append
def yH:=@PySem.Heap.lt_size
def yI:=@decide_eq_true
def yJ:=@Or.inl
def yK:=@List.mem_append_right
def yL:=@List.mem_cons_self
def yM:=@List.mem_append_left
def yN:=@PySem.F.plainAttrs_list
def yO:=@PySem.Heap.get?_push_size
def yP:=@PySem.PassesOwn.never
def yQ:=@List.take_add_one
def yR:=@List.length_take
def yS:=@List.getElem?_append_left
def yT:=@Bool.and_eq_true
def yU:=@List.filter_cons
def yV:=@List.take_length
def yW:=@List.length_filter_le
def yX:=@List.nodup_append
def yY:=@decide_eq_true_iff
def yZ:=@Nat.le_of_lt
def y0:=@List.not_mem_nil
def y8:=@PySem.F.slot_list_append
def y9:=@PySem.F.type_list_append
def Yb:=@Int.toNat_natCast
def Yc:=@List.append_assoc
def Yd:=@List.mem_map
def Ye:=@Ne.symm
def Yg:=@PySem.wpAny_holding
def Yh:=@Nat.ne_of_gt
def Yi:=@PyProof.Rows.callWith_type1
def Yj:=@Bool.false_ne_true
def Yk:=@List.append_of_mem
def Yl:=@List.length_reverse
def Ym:=@beq_iff_eq
def Yn:=@List.any_eq_true
def Yo:=@List.length_range
def Yp:=@List.filter_append
def Yq:=@Bool.eq_iff_iff
def Yr:=@List.append_nil
def Ys:=@decide_eq_decide
def Yt:=@Nat.lt_irrefl
def Yu:=@Nat.lt_of_le_of_lt
def Yv:=@List.idxOf_lt_length_of_mem
def Yw:=@PyProof.Rows.slot_tuple_getitem
def Yx:=@PySem.sizeLine_eq
def Yy:=@List.map_cons
def Yz:=@Classical.byContradiction
def YA:=@Bool.false_eq_true
def YB:=@beq_eq_false_iff_ne
def YC:=@Nat.zero_le
def YD:=@PySem.W.mg_none_of
def YE:=@List.getD_eq_getElem?_getD
def YF:=@PyProof.Rows.boot_isinstance
def YG:=@PySem.wpAny_newObj_type
def YH:=@List.length_replicate
def YI:=@List.mem_range
def YJ:=@PySem.F.slot_NoneType_eq
def YK:=@List.filter_nil
def YL:=@True.intro
def YM:=@List.getElem_idxOf
def YN:=@Int.eq_ofNat_of_zero_le
def YO:=@List.getElem_mem
def YQ:=@PySem.wpAny_mono
def YR:=@PySem.wpAny_of_eq
def YS:=@List.pairwise_iff_getElem
def YT:=@PySem.Heap.get?_update_self
def YU:=@or_false
def YV:=@List.all_eq_true
def YW:=@Option.isSome_iff_exists
def YX:=@List.length_erase_of_mem
def YY:=@PySem.W.looks_findIn
def YZ:=@PySem.wpAny_field
def Y0:=@PySem.boot_len
def Y1:=@PySem.wpAny_truthy_bool
def Y2:=@List.find?_cons
def Y3:=@List.dropLast_concat_getLast
def Y4:=@Array.length_toList
def Y5:=@List.replicate_succ
def Y6:=@List.length_pos_of_mem
def Y7:=@Sum.inr.inj
def Y8:=@List.cons.inj
def Y9:=@beq_self_eq_true
def xi:=@PySem.Heap.size_push
def xj:=@List.lookup_append
def xk:=@Int.emod_lt_of_pos
def xl:=@PySem.wpAny_passesOwn
def xm:=@List.length_nil
def xn:=@Int.emod_nonneg
def xo:=@List.getElem?_set_ne
def xp:=@Nat.pow_lt_pow_right
def xq:=@List.Pairwise.imp_of_mem
def xr:=@PySem.mem_of_lookup
def xt:=@PySem.W.looks_mroIn
def xu:=@PySem.Heap.SameBut.update
def xv:=@List.getElem_of_mem
def xw:=@PySem.W.any_some
def xx:=@if_false
def xy:=@Prod.ext
def xz:=@PySem.wpAny_callSpecial?_slot
def xA:=@PySem.wpAny_call_entry
def xB:=@List.lookup_cons
def xC:=@PySem.wpAny_getItem_str_slice
def xD:=@PySem.F.slot_list_index
def xE:=@Nat.le_add_right
def xF:=@List.mem_flatMap
def xG:=@List.length_tail
def xH:=@PySem.tupleKind_room_in1
def xI:=@Array.getElem?_eq_none
def xJ:=@Nat.zero_add
def xK:=@List.getElem?_tail
def xL:=@Int.zero_add
def xM:=@Nat.le_antisymm
def xN:=@PyProof.Rows.boot_list
def xO:=@Array.getElem?_toList
def xP:=@List.mem_iff_getElem?
def xQ:=@List.getElem?_reverse
def xR:=@List.take_sublist
def xS:=@List.flatten_cons
def xT:=@Option.isSome_map
def xU:=@decide_eq_true_eq
def xV:=@Bool.not_eq_true'
def xW:=@Nat.le_succ
def xX:=@PySem.codeAny_call_builtin
def xY:=@List.mem_reverse
def xZ:=@Array.getElem?_eq_getElem
def x0:=@PySem.F.plain_extend_loop
def Xa:=@List.flatMap_append
def Xb:=@Prod.mk.injEq
def Xc:=@Int.natCast_pow
def Xd:=@Nat.two_pow_pos
def Xe:=@List.range_succ
def Xf:=@PySem.Calls.spliced_cons
def Xg:=@PySem.wpAny_Call_Name_kw
def Xh:=@Option.isSome_some
def Xi:=@List.getElem?_replicate
def Xj:=@decide_eq_false_iff_not
def Xk:=@PySem.F.type_list_index
def Xl:=@PySem.Calls.spliced_nil
def Xm:=@if_true
def Xn:=@PySem.Calls.callWith_builtin
def Xo:=@List.take_of_length_le
def Xp:=@PySem.wpAny_nextOf_list_item
def Xq:=@PySem.Heap.get?_push_ne
def Xr:=@Nat.sub_self
def Xs:=@PySem.F.slot_dict_get
def Xu:=@Nat.lt_succ_self
def Xv:=@List.length_drop
def Xw:=@Nat.min_eq_right
def Xx:=@PyProof.Rows.boot_tuple
def Xy:=@List.all_cons
def Xz:=@List.any_cons
def XA:=@List.mem_erase_of_ne
def XB:=@PySem.wpAny_execs_nil
def XC:=@List.length_set
def XD:=@PySem.SeqAt.EqAt.same
def XE:=@Option.map_some
def XF:=@PySem.post_val_or_str
def XG:=@Nat.min_eq_left
def XH:=@PySem.F.slot_zip_next
def XI:=@PySem.wpAny_updateSeq
def XJ:=@List.all_append
def XM:=@List.filterMap_cons
def XR:=@PySem.W.plainGet_of
def XS:=@PySem.W.looks_clsIn
def XT:=@PySem.Heap.get?_update_ne
def XU:=@List.getElem?_range
def XV:=@Nat.testBit_two_pow
def XW:=@List.filter_eq_self
def XX:=@PySem.wpAny_call
def XY:=@PySem.W.callWith_K
def XZ:=@PyProof.Rows.slicePart_none
def X0:=@PySem.Heap.IsSliceOf.new
def X1:=@PySem.call_meets
def X2:=@Or.inr
def X3:=@Nat.testBit_or
def X4:=@List.take_zero
def X5:=@Option.isSome_none
def X6:=@PySem.slot_list_getitem
def X7:=@Nat.lt_succ_of_lt
def X8:=@PySem.wpAny_pyIter_list
def X9:=@Nat.le_succ_of_le
def kc:=@PyProof.Rows.mirror_perm
def ke:=@Nat.or_lt_two_pow
def kf:=@List.reverse_perm
def kg:=@List.pairwise_map
def kh:=@List.filter_congr
def ki:=@PySem.wpAny_standAt
def kj:=@PySem.evalPart_none
def kl:=@Bool.or_false
def km:=@PySem.wpAny_attempt
def ko:=@List.map_tail
def kq:=@PySem.wpAny_eqBool_int
def kt:=@List.cons_append
def ku:=@PySem.wpAny_askSetting
def kx:=@PySem.wpAny_pyIter_zip
def ky:=@Nat.lt_of_not_le
def kz:=@PySem.Heap.size_update
def kA:=@List.cons_ne_nil
def kB:=@List.map_reverse
def kC:=@Nat.max_eq_right
def kD:=@PySem.codeAny_mono
def kE:=@Nat.lt_trans
def kF:=@List.all_map
def kG:=@PySem.Txt.slice_le
def kH:=@List.of_mem_zip
def kI:=@List.forIn_cons
def kJ:=@Bool.or_eq_true
def kK:=@Nat.max_eq_left
def kL:=@List.nodup_nil
def kM:=@List.forIn_nil
def kN:=@Bool.and_true
def kO:=@decide_false
def kP:=@Nat.sub_zero
def kQ:=@Nat.le_total
def kR:=@List.map_map
namespace L2
open PySem PySem.Spec PyProof.Rows
noncomputable def qS (s:Stmt) (j:Nat):Stmt:=match s with
 | .ClassDef _ _ _ body _ _ _ _ _ _ _=>body.getD j (.Pass ⟨0,0,0,0⟩)
 | _=>.Pass ⟨0,0,0,0⟩
noncomputable def zV (s:Stmt):Arguments:=match s with
 | .FunctionDef _ a _ _ _ _ _ _ _ _=>a
 | _=>{ posonlyargs:=[],args:=[],vararg:=none,kwonlyargs:=[],kw_defaults:=[],kwarg:=none,defaults:=[] }
noncomputable def zz (s:Stmt):List Stmt:=match s with
 | .FunctionDef _ _ b _ _ _ _ _ _ _=>b
 | _=>[]
noncomputable def qh (s:Stmt):Scope:=match s with
 | .FunctionDef _ _ _ _ _ _ sc _ _ _=>sc
 | _=>{ kind:=.function,names:=[],isGenerator:=false,isCoroutine:=false }
end L2
namespace K52
open PySem L2 PyProof.Rows
noncomputable def top (i:Nat):Stmt:=PySem.Challenge.pw_onceroad_k52_winners_of_small_webs.main.body.getD i (.Pass ⟨0,0,0,0⟩)
noncomputable abbrev zA:Stmt:=top 29
noncomputable abbrev qao:Stmt:=top 37
noncomputable abbrev zH:Stmt:=top 38
noncomputable abbrev jr:Stmt:=top 39
noncomputable abbrev j4:Stmt:=top 40
noncomputable abbrev zI:Stmt:=qS (top 36) 0
noncomputable abbrev qap:Stmt:=top 41
noncomputable abbrev j5:Stmt:=qS (top 36) 1
noncomputable abbrev jx:Stmt:=qS (top 36) 4
noncomputable abbrev jy:Stmt:=qS (top 36) 6
noncomputable abbrev j6:Stmt:=qS (top 36) 7
noncomputable abbrev jk:Stmt:=qS (top 36) 8
noncomputable abbrev zJ:Stmt:=qS (top 36) 9
noncomputable abbrev jq:Stmt:=qS (top 36) 12
noncomputable abbrev zL:Stmt:=qS (top 36) 2
noncomputable abbrev zn:Stmt:=top 11
noncomputable abbrev jP:Stmt:=qS (top 36) 5
noncomputable abbrev jQ:Stmt:=top 12
noncomputable abbrev jE:Stmt:=qS (top 15) 6
noncomputable abbrev qJ:Stmt:=qS (top 15) 9
noncomputable abbrev qV:Stmt:=qS (top 15) 10
noncomputable abbrev jz:Stmt:=qS (top 15) 11
noncomputable abbrev qH:Stmt:=qS (top 15) 8
noncomputable abbrev qW:Stmt:=qS (top 15) 7
noncomputable abbrev jR:Stmt:=qS (top 15) 5
noncomputable abbrev jS:Stmt:=qS (top 15) 0
noncomputable abbrev j7:Stmt:=qS (top 15) 1
noncomputable abbrev jc:Stmt:=qS (top 15) 2
noncomputable abbrev jH:Stmt:=top 13
noncomputable abbrev q8:Stmt:=top 18
noncomputable abbrev qaI:Stmt:=top 17
noncomputable abbrev qN:Stmt:=top 19
noncomputable abbrev zM:Stmt:=top 20
noncomputable abbrev qar:Stmt:=top 21
noncomputable abbrev jA:Stmt:=top 24
noncomputable abbrev zN:Stmt:=top 23
noncomputable abbrev qaL:Stmt:=top 43
noncomputable abbrev qas:Stmt:=top 44
noncomputable abbrev qaM:Stmt:=top 45
noncomputable abbrev zf:Stmt:=top 46
noncomputable abbrev zg:Stmt:=top 47
noncomputable abbrev qat:Stmt:=top 48
noncomputable abbrev qbD:Stmt:=top 49
noncomputable abbrev zh:Stmt:=top 50
noncomputable abbrev jV:Stmt:=top 51
noncomputable abbrev qbE:Stmt:=top 26
noncomputable abbrev qaO:Stmt:=top 31
noncomputable abbrev qau:Stmt:=top 32
noncomputable abbrev zP:Stmt:=qS (top 36) 11
noncomputable abbrev jF:Stmt:=top 52
noncomputable abbrev j8:Stmt:=top 53
noncomputable abbrev qci:Stmt:=top 54
end K52
namespace Hd
open PySem PySem.W PySem.Calls PyProof.Rows
variable {p:Program} {α:Type}
noncomputable def qeY (tb:String->Option Builtin) (p:Program) (w:World) (n₀:Nat) (ann:Option Value):Nat->SharedT->Thread->Option SharedT
 | 0,_,_=>none
 | n + 1,s,t=>match through t with
  | true=>some s
  | false=>match stepOk n₀ ann t with
   | false=>none
   | true=>match stepT (denote tb) p w s t with
    | some (s',t')=>qeY tb p w n₀ ann n s' t'
    | none=>none
theorem qeD {tb:String->Option Builtin} {w:World} {n₀:Nat} {ann:Option Value}:∀ {n:Nat} {s s':SharedT} {t:Thread},qeY tb p w n₀ ann n s t=some s'->topRun tb p w n₀ ann n s.abs t=some s'.abs
 | 0,_,_,_,h=>by cases h
 | n + 1,s,s',t,h=>by
  unfold qeY at h;unfold topRun
  cases he:through t with
  | true=>rw [he] at h;cases h;rfl
  | false =>
   rw [he] at h
   cases hk:stepOk n₀ ann t with
   | false=>rw [hk] at h;cases h
   | true =>
    rw [hk] at h
    cases hs:stepT (denote tb) p w s t with
    | none=>rw [hs] at h;cases h
    | some r=>obtain ⟨s₂,t₂⟩:=r;rw [hs] at h;rw [stepT_spec hs];exact qeD h
noncomputable def qcH:List Obj->Nat->BT->BT
 | [],_,t=>t
 | o::r,n,t=>qcH r (n + 1) (t.ins n o)
noncomputable def qd1 (P:Params) (os:OsState):SharedT:=⟨qcH (boot_heap P).objs.toList 0 .nil,(boot_heap P).objs.size,(boot_heap P).life,Array.mk [],boot_drawn,boot_toks,os⟩
theorem boot_abs (P:Params):absHeap (qcH (boot_heap P).objs.toList 0 .nil) (boot_heap P).objs.size (boot_heap P).life=boot_heap P:=by kernel_rfl
noncomputable def qef (p q:Program) (Xt:Shared->Bool) {α:Type} (Yf:Shared->α) (N:Nat) (w:World) (os:OsState):=match (boot_heap w.params).isNs mainGlobals&&(Array.mk []:Array GenState).size==0 with
 | true=>(qeY treeTable p w (boot_heap w.params).objs.size ((boot_heap w.params).nsMap mainGlobals "__annotations__") N (qd1 w.params os) (topStub p)).bind fun s=>match staticsOk (importedModules p.main.body) (boot_heap w.params) s.abs.heap&&namesBound p s.abs.heap&&gensDone s.abs&&laidKept (boot_heap w.params) s.abs.heap with
   | true=>some (openSeen q [] (importedModules p.main.body) Xt true s.abs,Yf s.abs)
   | false=>none
 | false=>none
noncomputable def lookS (p:Program) (N:Nat) (w:World) (os:OsState):Option Shared:=match (boot_heap w.params).isNs mainGlobals&&(Array.mk []:Array GenState).size==0 with
 | true=>(qeY treeTable p w (boot_heap w.params).objs.size ((boot_heap w.params).nsMap mainGlobals "__annotations__") N (qd1 w.params os) (topStub p)).bind fun s=>match staticsOk (importedModules p.main.body) (boot_heap w.params) s.abs.heap&&namesBound p s.abs.heap&&gensDone s.abs&&laidKept (boot_heap w.params) s.abs.heap with
   | true=>some s.abs
   | false=>none
 | false=>none
theorem lookT_map (p q:Program) (Xt:Shared->Bool) (Yf:Shared->α) (N:Nat) (w:World) (os:OsState):qef p q Xt Yf N w os=(lookS p N w os).map fun s=>(openSeen q [] (importedModules p.main.body) Xt true s,Yf s):=by
 unfold qef lookS
 cases (boot_heap w.params).isNs mainGlobals&&(Array.mk []:Array GenState).size==0 with
 | false=>rfl
 | true =>
  dsimp only
  cases qeY treeTable p w (boot_heap w.params).objs.size ((boot_heap w.params).nsMap mainGlobals "__annotations__") N (qd1 w.params os) (topStub p) with
  | none=>rfl
  | some s =>
   show (match _ with | true=>_ | false=>_)=Option.map _ (match _ with | true=>_ | false=>_);cases staticsOk (importedModules p.main.body) (boot_heap w.params) s.abs.heap&&namesBound p s.abs.heap&&gensDone s.abs&&laidKept (boot_heap w.params) s.abs.heap<;>rfl
theorem packs {σ A B C D E Y:Type} {o:Option σ} {f:σ->A×B×C×D×E} {g:σ->Y} {x:A×B×C×D×E} {y:Y} (h1:o.map (fun s=>((f s).1,(f s).2.1,(f s).2.2.1,(f s).2.2.2.1))=some (x.1,x.2.1,x.2.2.1,x.2.2.2.1)) (h2:o.map (fun s=>(f s).2.2.2.2)=some x.2.2.2.2) (h3:o.map g=some y):o.map (fun s=>(f s,g s))=some (x,y):=by
 cases o with
 | none=>cases h3
 | some s =>
  have e1:=ym h1;have e2:=ym h2;have e3:=ym h3;have k1:=congrArg Prod.fst e1;have k2:=congrArg (fun z=>z.2.1) e1;have k3:=congrArg (fun z=>z.2.2.1) e1;have k4:=congrArg (fun z=>z.2.2.2) e1;exact congrArg some (xy (xy k1 (xy k2 (xy k3 (xy k4 e2)))) e3)
theorem left_of {q:Program} {Xt:Shared->Bool} {Yf:Shared->α} {Ya:World->α} {N:Nat} (e:opening p=plainProg p.main.scope.names) (hN:Nat.ble 600 N=true) (f:∀ s,fenceModules? p s=some s)
  (h:∀ w os,qef p q Xt Yf N w os=some (openGood q [],Ya w)):LeftO p q [] Xt Yf Ya N:=fun w=>by
 obtain ⟨⟨h0,gs,d,k,os⟩,e1,e2⟩:=yn.mp (boot_open e hN f w);obtain ⟨rfl,rfl,rfl,rfl⟩:h0=boot_heap w.params/\gs=Array.mk []/\d=boot_drawn/\k=boot_toks:=by simpa using e2
 have hh:=h w os;unfold qef at hh;unfold openEnds;rw [e1];show (topFrom treeTable p w N _).map _=_;unfold topFrom;dsimp only;split at hh
 ·rename_i z
  rw [z];obtain ⟨s,hs,q2⟩:=Option.bind_eq_some_iff.mp hh;have r:=qeD hs
  have ba:(qd1 w.params os).abs=⟨boot_heap w.params,Array.mk [],boot_drawn,boot_toks,os⟩:=by
   unfold qd1 SharedT.abs;dsimp only;rw [boot_abs]
  rw [ba] at r;dsimp only;rw [r];split at q2
  ·rename_i z2
   show ((match staticsOk (importedModules p.main.body) (boot_heap w.params) s.abs.heap&&namesBound p s.abs.heap&&gensDone s.abs&&laidKept (boot_heap w.params) s.abs.heap with | true=>some s.abs | false=>none):Option Shared).map _=_;rw [z2];exact q2
  ·cases q2
 ·cases hh
end Hd
namespace K52
open PySem L2 PyProof.Rows PySem.W
noncomputable abbrev NN:Nat:=20000
noncomputable def Q:Program:=view PySem.Challenge.pw_onceroad_k52_winners_of_small_webs [0,2,3,4,5,6,7,8,9,11,12,13,15,17,18,19,20,21,23,24,26,28,29,31,32,34,35,36,37,38,39,40,41,43,44,45,46,47,48,49,50,51,52,53,54]
noncomputable def en (P:Params) (t:Tok) (v:Value) (k:Str):DictEntry:=⟨PyData.keyHash P k,.str k t,v⟩
noncomputable def cO (t ln ac r:Nat) (x y z v:Value) (e u:Nat) (q n:Str):Obj:=⟨.type "code",none,.fields #[.str n t,.str q (t + 1),.str "/claim/cut.py" (t + 2),.int ln 0,.int ac 0,.int 0 0,.int 0 0,.int 3 0,.ref r,.bool true,.int 181 0,x,y,z,v,.ref e,.int u 0,.int ln 0,.str "/claim/cut.py" (u + 1)],#[]⟩
noncomputable def cE (t ln ac r:Nat) (x y z v:Value) (e u:Nat) (n:Str):Obj:=cO t ln ac r x y z v e u n n
noncomputable def fO (k c:Nat) (s:Stmt) (m q n:Str):Obj:=⟨.type "function",none,.func (fnOf n q (zV s) (zz s) (qh s) .none .none .none (.str m k) none (.ref c) .none),#[]⟩
noncomputable def fE (k c:Nat) (s:Stmt) (m n:Str):Obj:=fO k c s m n n
noncomputable def Kf (P:Params):Frag:=
 (nat_lit 2,(⟨.none,none,.dict #[] 0,#[]⟩:Obj)) ::
 (nat_lit 3,(⟨(.type "dict"),none,.dict #[en P 165 (.str "law_onceroad_k52_winners_of_small_webs" 872) "__name__",en P 166 .none "__doc__",en P 167 .none "__package__",en P 168 (.builtin "__main__.__loader__#opaque") "__loader__",en P 169 .none "__spec__",en P 170 (.ref 6) "__annotations__",en P 171 (.ref 4) "__builtins__",en P 173 (.str "/claim/cut.py" 172) "__file__",en P 174 .none "__cached__",en P 193 (.ref 21) "_wall",en P 221 (.ref 38) "OnceError",en P 246 (.ref 58) "NoName",en P 271 (.ref 77) "Twice",en P 296 (.ref 96) "NoPlace",en P 321 (.ref 115) "NoTie",en P 346 (.ref 134) "TooMany",en P 371 (.ref 153) "NoPairs",en P 396 (.ref 172) "NoRow",en P 408 (.ref 181) "are_pairs",en P 418 (.ref 188) "partners_in",en P 424 (.ref 193) "told_pairs",en P 554 (.ref 281) "Forest",en P 566 (.ref 292) "is_row",en P 576 (.ref 299) "are_unlike_places",en P 582 (.ref 304) "goes_by_turns",en P 594 (.ref 311) "can_turn",en P 600 (.ref 316) "turned",en P 609 (.ref 323) "greatest",en P 620 (.ref 330) "greatest_from",en P 629 (.ref 337) "loose",en P 633 (.int 6 632) "LONGEST_NAME",en P 639 (.ref 342) "is_name",en P 649 (.ref 349) "winner",en P 659 (.ref 356) "winners",en P 663 (.int 14 662) "MOST_PLACES",en P 665 (.int 30 664) "MOST_TIES",en P 825 (.ref 483) "Web",en P 833 (.ref 494) "has_bit",en P 841 (.ref 501) "is_place",en P 850 (.ref 508) "are_two_places",en P 859 (.ref 515) "numbers_of",en P 871 (.ref 522) "near_of",en P 881 (.ref 529) "_law_cell",en P 888 (.ref 536) "_law_begun",en P 898 (.ref 543) "_law_take",en P 904 (.ref 548) "_law_names",en P 910 (.ref 553) "_law_shape",en P 926 (.ref 560) "_law_drawn",en P 939 (.ref 567) "_law_web",en P 945 (.ref 572) "_law_beside",en P 951 (.ref 577) "_law_solved",en P 962 (.ref 584) "_law_one_by_one",en P 975 (.ref 591) "_law_together",en P 981 (.ref 596) "law"] 54,#[]⟩:Obj)) ::
 (nat_lit 180,cE 399 45 2 175 (.ref 176) .none (.ref 177) (.ref 178) 179 406 "are_pairs") ::
 (nat_lit 181,fE 397 180 zn "onceroad.pairs" "are_pairs") ::
 (nat_lit 187,cE 409 55 2 182 (.ref 183) .none (.ref 184) (.ref 185) 186 416 "partners_in") ::
 (nat_lit 188,fE 397 187 jQ "onceroad.pairs" "partners_in") ::
 (nat_lit 192,cE 419 63 2 189 (.ref 190) .none .none .none 191 422 "told_pairs") ::
 (nat_lit 193,fE 397 192 jH "onceroad.pairs" "told_pairs") ::
 (nat_lit 206,cO 439 69 3 201 (.ref 202) .none (.ref 203) (.ref 204) 205 445 "Forest.__init__" "__init__") ::
 (nat_lit 207,fO 425 206 jS "onceroad.forests" "Forest.__init__" "__init__") ::
 (nat_lit 213,cO 448 80 1 208 (.ref 209) .none (.ref 210) (.ref 211) 212 452 "Forest.row" "row") ::
 (nat_lit 214,fO 425 213 j7 "onceroad.forests" "Forest.row" "row") ::
 (nat_lit 218,cO 455 83 1 215 (.ref 216) .none .none .none 217 458 "Forest.reached" "reached") ::
 (nat_lit 219,fO 425 218 jc "onceroad.forests" "Forest.reached" "reached") ::
 (nat_lit 239,cO 476 94 1 234 (.ref 235) .none (.ref 236) (.ref 237) 238 481 "Forest.grow" "grow") ::
 (nat_lit 240,fO 425 239 jR "onceroad.forests" "Forest.grow" "grow") ::
 (nat_lit 246,cO 484 102 3 241 (.ref 242) .none (.ref 243) (.ref 244) 245 490 "Forest.reach" "reach") ::
 (nat_lit 247,fO 425 246 jE "onceroad.forests" "Forest.reach" "reach") ::
 (nat_lit 253,cO 493 106 2 248 (.ref 249) .none (.ref 250) (.ref 251) 252 500 "Forest.look_around" "look_around") ::
 (nat_lit 254,fO 425 253 qW "onceroad.forests" "Forest.look_around" "look_around") ::
 (nat_lit 258,cO 503 117 3 255 (.ref 256) .none .none .none 257 506 "Forest.bring_together" "bring_together") ::
 (nat_lit 259,fO 425 258 qH "onceroad.forests" "Forest.bring_together" "bring_together") ::
 (nat_lit 265,cO 509 128 2 260 (.ref 261) .none (.ref 262) (.ref 263) 264 516 "Forest.bases_down_from" "bases_down_from") ::
 (nat_lit 266,fO 425 265 qJ "onceroad.forests" "Forest.bases_down_from" "bases_down_from") ::
 (nat_lit 272,cO 519 135 4 267 (.ref 268) .none (.ref 269) (.ref 270) 271 530 "Forest.reach_round" "reach_round") ::
 (nat_lit 273,fO 425 272 qV "onceroad.forests" "Forest.reach_round" "reach_round") ::
 (nat_lit 277,cO 533 144 3 274 (.ref 275) .none .none .none 276 536 "Forest.fold" "fold") ::
 (nat_lit 278,fO 425 277 jz "onceroad.forests" "Forest.fold" "fold") ::
 (nat_lit 280,(⟨(.type "dict"),none,.dict #[en P 434 (.str "onceroad.forests" 425) "__module__",en P 438 (.int 67 437) "__firstlineno__",en P 447 (.ref 207) "__init__",en P 454 (.ref 214) "row",en P 460 (.ref 219) "reached",en P 468 (.ref 226) "row_to",en P 475 (.ref 233) "folds",en P 483 (.ref 240) "grow",en P 492 (.ref 247) "reach",en P 502 (.ref 254) "look_around",en P 508 (.ref 259) "bring_together",en P 518 (.ref 266) "bases_down_from",en P 532 (.ref 273) "reach_round",en P 538 (.ref 278) "fold",en P 547 (.ref 279) "__static_attributes__",en P 549 (.ref 282) "__dict__",en P 551 (.ref 283) "__weakref__",en P 552 .none "__doc__"] 4,#[]⟩:Obj)) ::
 (nat_lit 281,(⟨(.type "type"),none,.cls { name:="Forest",bases:=[(.type "object")],mro:=[(.ref 281),(.type "object")],ns:=280,qualname:="Forest",hasDict:=true,slotNames:=[],subclasses:=[],abstract:=false,collection:=none,hasDel:=false },#[none,none,(some (.str "Forest" 427)),(some (.str "Forest" 435)),(some (.builtin "object.__new__")),(some (.bool true))]⟩:Obj)) ::
 (nat_lit 291,cE 557 150 3 286 (.ref 287) .none (.ref 288) (.ref 289) 290 564 "is_row") ::
 (nat_lit 292,fE 555 291 qaI "onceroad.rows" "is_row") ::
 (nat_lit 298,cE 567 155 2 293 (.ref 294) .none (.ref 295) (.ref 296) 297 574 "are_unlike_places") ::
 (nat_lit 299,fE 555 298 q8 "onceroad.rows" "are_unlike_places") ::
 (nat_lit 303,cE 577 164 3 300 (.ref 301) .none .none .none 302 580 "goes_by_turns") ::
 (nat_lit 304,fE 555 303 qN "onceroad.rows" "goes_by_turns") ::
 (nat_lit 310,cE 583 170 3 305 (.ref 306) .none (.ref 307) (.ref 308) 309 592 "can_turn") ::
 (nat_lit 311,fE 555 310 zM "onceroad.rows" "can_turn") ::
 (nat_lit 315,cE 595 177 3 312 (.ref 313) .none .none .none 314 598 "turned") ::
 (nat_lit 316,fE 555 315 qar "onceroad.rows" "turned") ::
 (nat_lit 322,cE 603 184 1 317 (.ref 318) .none (.ref 319) (.ref 320) 321 607 "greatest") ::
 (nat_lit 323,fE 601 322 zN "onceroad.greatest" "greatest") ::
 (nat_lit 329,cE 610 186 2 324 (.ref 325) .none (.ref 326) (.ref 327) 328 618 "greatest_from") ::
 (nat_lit 330,fE 601 329 jA "onceroad.greatest" "greatest_from") ::
 (nat_lit 336,cE 623 196 1 331 (.ref 332) .none (.ref 333) (.ref 334) 335 627 "loose") ::
 (nat_lit 337,fE 621 336 qbE "onceroad.sorts" "loose") ::
 (nat_lit 341,cE 634 200 1 338 (.ref 339) .none .none .none 340 637 "is_name") ::
 (nat_lit 342,fE 630 341 zA "onceroad.names" "is_name") ::
 (nat_lit 348,cE 642 205 2 343 (.ref 344) .none (.ref 345) (.ref 346) 347 647 "winner") ::
 (nat_lit 349,fE 640 348 qaO "onceroad.wins" "winner") ::
 (nat_lit 355,cE 650 208 1 350 (.ref 351) .none (.ref 352) (.ref 353) 354 657 "winners") ::
 (nat_lit 356,fE 640 355 qau "onceroad.wins" "winners") ::
 (nat_lit 369,cO 678 219 3 364 (.ref 365) .none (.ref 366) (.ref 367) 368 684 "Web.__init__" "__init__") ::
 (nat_lit 370,fO 660 369 zI "onceroad.webs" "Web.__init__" "__init__") ::
 (nat_lit 376,cO 687 224 1 371 (.ref 372) .none (.ref 373) (.ref 374) 375 691 "Web.places" "places") ::
 (nat_lit 377,fO 660 376 j5 "onceroad.webs" "Web.places" "places") ::
 (nat_lit 383,cO 694 227 1 378 (.ref 379) .none (.ref 380) (.ref 381) 382 701 "Web.ties" "ties") ::
 (nat_lit 384,fO 660 383 zL "onceroad.webs" "Web.ties" "ties") ::
 (nat_lit 397,cO 711 238 2 392 (.ref 393) .none (.ref 394) (.ref 395) 396 716 "Web.has_place" "has_place") ::
 (nat_lit 398,fO 660 397 jx "onceroad.webs" "Web.has_place" "has_place") ::
 (nat_lit 404,cO 719 241 2 399 (.ref 400) .none (.ref 401) (.ref 402) 403 724 "Web.has_tie" "has_tie") ::
 (nat_lit 405,fO 660 404 jP "onceroad.webs" "Web.has_tie" "has_tie") ::
 (nat_lit 411,cO 727 244 2 406 (.ref 407) .none (.ref 408) (.ref 409) 410 732 "Web.number_of" "number_of") ::
 (nat_lit 412,fO 660 411 jy "onceroad.webs" "Web.number_of" "number_of") ::
 (nat_lit 418,cO 735 249 2 413 (.ref 414) .none (.ref 415) (.ref 416) 417 740 "Web.beside" "beside") ::
 (nat_lit 419,fO 660 418 j6 "onceroad.webs" "Web.beside" "beside") ::
 (nat_lit 425,cO 743 252 2 420 (.ref 421) .none (.ref 422) (.ref 423) 424 748 "Web.bits_beside" "bits_beside") ::
 (nat_lit 426,fO 660 425 jk "onceroad.webs" "Web.bits_beside" "bits_beside") ::
 (nat_lit 432,cO 751 255 3 427 (.ref 428) .none (.ref 429) (.ref 430) 431 758 "Web.tied" "tied") ::
 (nat_lit 433,fO 660 432 zJ "onceroad.webs" "Web.tied" "tied") ::
 (nat_lit 446,cO 768 262 1 441 (.ref 442) .none (.ref 443) (.ref 444) 445 772 "Web.told" "told") ::
 (nat_lit 447,fO 660 446 zP "onceroad.webs" "Web.told" "told") ::
 (nat_lit 451,cO 775 265 2 448 (.ref 449) .none .none .none 450 778 "Web.names_in" "names_in") ::
 (nat_lit 452,fO 660 451 jq "onceroad.webs" "Web.names_in" "names_in") ::
 (nat_lit 482,(⟨(.type "dict"),none,.dict #[en P 673 (.str "onceroad.webs" 660) "__module__",en P 677 (.int 217 676) "__firstlineno__",en P 686 (.ref 370) "__init__",en P 693 (.ref 377) "places",en P 703 (.ref 384) "ties",en P 710 (.ref 391) "how_many",en P 718 (.ref 398) "has_place",en P 726 (.ref 405) "has_tie",en P 734 (.ref 412) "number_of",en P 742 (.ref 419) "beside",en P 750 (.ref 426) "bits_beside",en P 760 (.ref 433) "tied",en P 767 (.ref 440) "pieces",en P 774 (.ref 447) "told",en P 780 (.ref 452) "names_in",en P 788 (.ref 459) "without",en P 796 (.ref 466) "with_place",en P 805 (.ref 473) "with_tie",en P 814 (.ref 480) "without_tie",en P 818 (.ref 481) "__static_attributes__",en P 820 (.ref 484) "__dict__",en P 822 (.ref 485) "__weakref__",en P 823 .none "__doc__"] 4,#[]⟩:Obj)) ::
 (nat_lit 483,(⟨(.type "type"),none,.cls { name:="Web",bases:=[(.type "object")],mro:=[(.ref 483),(.type "object")],ns:=482,qualname:="Web",hasDict:=true,slotNames:=[],subclasses:=[],abstract:=false,collection:=none,hasDel:=false },#[none,none,(some (.str "Web" 666)),(some (.str "Web" 674)),(some (.builtin "object.__new__")),(some (.bool true))]⟩:Obj)) ::
 (nat_lit 493,cE 826 279 2 488 (.ref 489) .none (.ref 490) (.ref 491) 492 831 "has_bit") ::
 (nat_lit 494,fE 660 493 qao "onceroad.webs" "has_bit") ::
 (nat_lit 500,cE 834 281 2 495 (.ref 496) .none (.ref 497) (.ref 498) 499 839 "is_place") ::
 (nat_lit 501,fE 660 500 zH "onceroad.webs" "is_place") ::
 (nat_lit 507,cE 842 283 2 502 (.ref 503) .none (.ref 504) (.ref 505) 506 848 "are_two_places") ::
 (nat_lit 508,fE 660 507 jr "onceroad.webs" "are_two_places") ::
 (nat_lit 514,cE 851 288 1 509 (.ref 510) .none (.ref 511) (.ref 512) 513 857 "numbers_of") ::
 (nat_lit 515,fE 660 514 j4 "onceroad.webs" "numbers_of") ::
 (nat_lit 521,cE 860 301 2 516 (.ref 517) .none (.ref 518) (.ref 519) 520 869 "near_of") ::
 (nat_lit 522,fE 660 521 qap "onceroad.webs" "near_of") ::
 (nat_lit 528,cE 874 318 2 523 (.ref 524) .none (.ref 525) (.ref 526) 527 879 "_law_cell") ::
 (nat_lit 529,fE 872 528 qaL "law_onceroad_k52_winners_of_small_webs" "_law_cell") ::
 (nat_lit 535,cE 882 322 1 530 (.ref 531) .none (.ref 532) (.ref 533) 534 886 "_law_begun") ::
 (nat_lit 536,fE 872 535 qas "law_onceroad_k52_winners_of_small_webs" "_law_begun") ::
 (nat_lit 542,cE 889 324 2 537 (.ref 538) .none (.ref 539) (.ref 540) 541 896 "_law_take") ::
 (nat_lit 543,fE 872 542 qaM "law_onceroad_k52_winners_of_small_webs" "_law_take") ::
 (nat_lit 547,cE 899 334 2 544 (.ref 545) .none .none .none 546 902 "_law_names") ::
 (nat_lit 548,fE 872 547 zf "law_onceroad_k52_winners_of_small_webs" "_law_names") ::
 (nat_lit 552,cE 905 344 2 549 (.ref 550) .none .none .none 551 908 "_law_shape") ::
 (nat_lit 553,fE 872 552 zg "law_onceroad_k52_winners_of_small_webs" "_law_shape") ::
 (nat_lit 559,cE 911 363 2 554 (.ref 555) .none (.ref 556) (.ref 557) 558 924 "_law_drawn") ::
 (nat_lit 560,fE 872 559 qat "law_onceroad_k52_winners_of_small_webs" "_law_drawn") ::
 (nat_lit 566,cE 927 375 3 561 (.ref 562) .none (.ref 563) (.ref 564) 565 937 "_law_web") ::
 (nat_lit 567,fE 872 566 qbD "law_onceroad_k52_winners_of_small_webs" "_law_web") ::
 (nat_lit 571,cE 940 383 2 568 (.ref 569) .none .none .none 570 943 "_law_beside") ::
 (nat_lit 572,fE 872 571 zh "law_onceroad_k52_winners_of_small_webs" "_law_beside") ::
 (nat_lit 576,cE 946 388 1 573 (.ref 574) .none .none .none 575 949 "_law_solved") ::
 (nat_lit 577,fE 872 576 jV "law_onceroad_k52_winners_of_small_webs" "_law_solved") ::
 (nat_lit 583,cE 952 397 3 578 (.ref 579) .none (.ref 580) (.ref 581) 582 960 "_law_one_by_one") ::
 (nat_lit 584,fE 872 583 jF "law_onceroad_k52_winners_of_small_webs" "_law_one_by_one") ::
 (nat_lit 590,cE 963 403 3 585 (.ref 586) .none (.ref 587) (.ref 588) 589 973 "_law_together") ::
 (nat_lit 591,fE 872 590 j8 "law_onceroad_k52_winners_of_small_webs" "_law_together") ::
 (nat_lit 595,cE 976 414 1 592 (.ref 593) .none .none .none 594 979 "law") ::
 (nat_lit 596,fE 872 595 qci "law_onceroad_k52_winners_of_small_webs" "law") ::
 []
noncomputable def ks:List Addr:=[2,3,180,181,187,188,192,193,206,207,213,214,218,219,239,240,246,247,253,254,258,259,265,266,272,273,277,278,280,281,291,292,298,299,303,304,310,311,315,316,322,323,329,330,336,337,341,342,348,349,355,356,369,370,376,377,383,384,397,398,404,405,411,412,418,419,425,426,432,433,446,447,451,452,482,483,493,494,500,501,507,508,514,515,521,522,528,529,535,536,542,543,547,548,552,553,559,560,566,567,571,572,576,577,583,584,590,591,595,596]
theorem ks_eq:∀ P,ks=(Kf P).map (·.1):=fun P=>by kernel_rfl
noncomputable abbrev Hk:Hook:=kHook Kf ks ks_eq
noncomputable abbrev Xt (s:Shared):Bool:=xlAt Q [] s&&recOk [] s
noncomputable abbrev sn (s:Shared):=openSeen Q [] (importedModules PySem.Challenge.pw_onceroad_k52_winners_of_small_webs.main.body) Xt true s
noncomputable def runA (w:World) (os:OsState):=(Hd.lookS PySem.Challenge.pw_onceroad_k52_winners_of_small_webs NN w os).map fun s=>((sn s).1,(sn s).2.1,(sn s).2.2.1,(sn s).2.2.2.1)
noncomputable def runB (w:World) (os:OsState):=(Hd.lookS PySem.Challenge.pw_onceroad_k52_winners_of_small_webs NN w os).map fun s=>(sn s).2.2.2.2
noncomputable def runC (w:World) (os:OsState):=(Hd.lookS PySem.Challenge.pw_onceroad_k52_winners_of_small_webs NN w os).map fun s=>ks.map s.heap.get?
noncomputable def gdA (_:World) (_:OsState):=some ((openGood Q []).1,(openGood Q []).2.1,(openGood Q []).2.2.1,(openGood Q []).2.2.2.1)
noncomputable def gdB (_:World) (_:OsState):=some (openGood Q []).2.2.2.2
noncomputable def gdC (w:World) (_:OsState):=some ((Kf w.params).map fun p=>some p.2)
noncomputable def tag {α:Type} (f g:World->OsState->α):Bool:=true
theorem tag1:(tag runA gdA&&(tag runB gdB&&tag runC runC))=true:=by k_qdec
theorem hA1 (w:World) (os:OsState):runA w os=gdA w os:=by
 rw [PySem.W.Fast.te808301490661406497,PySem.W.Fast.te18150382150468524175]
 kernel_rfl
theorem hB1 (w:World) (os:OsState):runB w os=gdB w os:=by
 rw [PySem.W.Fast.te3563064256992809482,PySem.W.Fast.te10414789046001540728]
 kernel_rfl
theorem hC1 (w:World) (os:OsState):runC w os=gdC w os:=by
 rw [PySem.W.Fast.te7026347226597379995]
 kernel_rfl
theorem hl:LeftO PySem.Challenge.pw_onceroad_k52_winners_of_small_webs Q [] Xt (Hook.obs Hk) (Hook.val Hk) NN:=Hd.left_of (by kernel_rfl) (by decide) (fun s=>by kernel_rfl) fun w os=>(Hd.lookT_map ..).trans (Hd.packs (hA1 w os) (hB1 w os) (hC1 w os))
end K52
namespace L2
open PySem PySem.Spec PyProof.Rows
variable {A:Around} {C a b dx it:Addr} {CX:CXT} {D:Ends} {E:Value->Shared->Prop} {H:Hp} {M:Model} {N ps:List Str} {P:Program} {X:Cx} {base h:Heap} {body:List Stmt} {c e tg:Expr} {ch fp:List Addr} {d':Drawn} {es:List Expr} {f:Value->Value->Sem Value} {g:TG} {g':Array GenState} {i j n t':Nat} {kindOf:Str->Option NameKind} {kw:List (Str×Value)} {lo:Int} {mA mg:Str->Option Value} {o:HO} {op op':CmpOp} {outer:List Env} {p pos:Pos} {pins:List (Addr×Obj)} {pl:Sem Bool} {qual x:Str} {r r':R2} {s s':Shared} {sc scope:Scope} {ta:TA} {tb:TS} {tc:TT} {te:TE} {u:Value} {us:List Value} {v y:V} {vs xs:List V} {w:World} {α:Type} {σ:St}
noncomputable abbrev Key:=Sum Int Str
noncomputable def qcj:Key->Value->Bool
 | .inl k,v=>Value.isInt k v
 | .inr x,v=>Value.isStrOf x v
noncomputable def keyH (w:World):Key->Int
 | .inl k=>hashInt k
 | .inr x=>hashStr w x
theorem qR:∀ {k:Key} {v:Value},qcj k v=true->(∃ i t,k=Sum.inl i/\v=Value.int i t)\/(∃ x t,k=Sum.inr x/\v=Value.str x t)
 | .inl i,v,h=>by
  obtain ⟨t,e⟩:=Value.isInt_shape (k:=i) (v:=v) h;exact .inl ⟨i,t,rfl,e⟩
 | .inr x,v,h=>by
  obtain ⟨t,e⟩:=Value.isStrOf_shape (x:=x) (v:=v) h;exact .inr ⟨x,t,rfl,e⟩
theorem keyIs_int (i:Int) (t:Tok):qcj (.inl i) (.int i t)=true:=by simp [qcj,Value.isInt]
theorem keyIs_str (x:Str) (t:Tok):qcj (.inr x) (.str x t)=true:=by simp [qcj,Value.isStrOf]
theorem key_ll (a b:Int):decide ((Sum.inl a:Key)=Sum.inl b)=(a==b):=by
 by_cases e:a=b
 ·subst e;simp
 ·have h:¬ (Sum.inl a:Key)=Sum.inl b:=fun q=>e (Sum.inl.inj q);rw [yl h];exact (YB.mpr e).symm
theorem key_rr (a b:Str):decide ((Sum.inr a:Key)=Sum.inr b)=decide (a=b):=by
 by_cases e:a=b
 ·subst e;simp
 ·have h:¬ (Sum.inr a:Key)=Sum.inr b:=fun q=>e (Y7 q);rw [yl h,yl e]
theorem key_lr (a:Int) (b:Str):decide ((Sum.inl a:Key)=Sum.inr b)=false:=yl (fun q=>nomatch q)
theorem key_rl (a:Str) (b:Int):decide ((Sum.inr a:Key)=Sum.inl b)=false:=yl (fun q=>nomatch q)
noncomputable def jh (prog:Program) (w:World):PySem.KeyKind prog w Key where
 is:=qcj
 hash:=keyH w
 inj:=fun v a b ha hb=>by
  rcases qR ha with ⟨i,t,rfl,rfl⟩ | ⟨x,t,rfl,rfl⟩
  ·rcases qR hb with ⟨j,u,rfl,e⟩ | ⟨y,u,rfl,e⟩
   ·injection e with e1 _;rw [e1]
   ·exact nomatch e
  ·rcases qR hb with ⟨j,u,rfl,e⟩ | ⟨y,u,rfl,e⟩
   ·exact nomatch e
   ·injection e with e1 _;rw [e1]
 byValue:=fun k v h=>by
  rcases qR h with ⟨i,t,rfl,rfl⟩ | ⟨x,t,rfl,rfl⟩<;>rfl
 pyHash:=fun hv h=>by
  rcases qR hv with ⟨i,t,rfl,rfl⟩ | ⟨x,t,rfl,rfl⟩
  ·exact wpAny_pyHash_int h
  ·exact wpAny_pyHash_str h
 eqBool:=fun hu hv h=>by
  rcases qR hu with ⟨i,t,rfl,rfl⟩ | ⟨x,t,rfl,rfl⟩
  ·rcases qR hv with ⟨j,u,rfl,rfl⟩ | ⟨y,u,rfl,rfl⟩
   ·rw [key_ll] at h;exact kq h
   ·rw [key_lr] at h;exact SeqAt.EqAt.int_str i t y u _ _ _ _ h
  ·rcases qR hv with ⟨j,u,rfl,rfl⟩ | ⟨y,u,rfl,rfl⟩
   ·rw [key_rl] at h;exact SeqAt.EqAt.str_int x t j u _ _ _ _ h
   ·rw [key_rr] at h;exact wpAny_eqBool_str h
 «strs»:=fun k x t v h=>by
  rcases qR h with ⟨i,u,rfl,e⟩ | ⟨y,u,rfl,e⟩
  ·exact nomatch e
  ·injection e with e1 _
   subst e1;cases v<;>rfl
theorem mixKind_int (prog:Program) (w:World) (i:Int) (t:Tok):(jh prog w).is (.inl i) (.int i t)=true:=keyIs_int i t
theorem mixKind_str (prog:Program) (w:World) (x:Str) (t:Tok):(jh prog w).is (.inr x) (.str x t)=true:=keyIs_str x t
inductive V where
 | non | bl (b:Bool) | int (i:Int) | str (x:Str) | byt (b:Array UInt8) | flt (b:UInt64) | ref (a:Addr) | ty (n:String)
 deriving DecidableEq
noncomputable def RelV:V->Value->Prop
 | .non,u=>u=Value.none
 | .bl b,u=>u=Value.bool b
 | .int i,u=>∃ t,u=Value.int i t
 | .str x,u=>∃ t,u=Value.str x t
 | .byt b,u=>∃ t,u=Value.bytes b t
 | .flt b,u=>∃ t,u=Value.float b t
 | .ref a,u=>u=Value.ref a
 | .ty n,u=>u=Value.type n
noncomputable abbrev Vals:List V->List Value->Prop:=Paired RelV
theorem Vals.length (r:Vals xs us):xs.length=us.length:=Paired.length r
theorem Vals.get:∀ {xs:List V} {us:List Value} {i:Nat} {x:V},Vals xs us->xs[i]?=some x->∃ u,us[i]?=some u/\RelV x u
 | _,_,_,_,.nil,e=>by simp at e
 | _,_,0,_,.cons r _,e=>by simp at e;subst e;exact ⟨_,rfl,r⟩
 | _,_,i + 1,x,.cons _ t,e=>by
  obtain ⟨u,h1,h2⟩:=Vals.get (i:=i) (x:=x) t (by simpa using e);exact ⟨u,by simpa using h1,h2⟩
theorem Vals.set {x:V} (r:RelV x u):∀ {xs:List V} {us:List Value} (i:Nat),Vals xs us->Vals (xs.set i x) (us.set i u)
 | _,_,_,.nil=>.nil
 | _,_,0,.cons _ t=>.cons r t
 | _,_,i + 1,.cons q t=>.cons q (Vals.set r i t)
theorem Vals.append:∀ {xs ys:List V} {us ws:List Value},Vals xs us->Vals ys ws->Vals (xs++ys) (us++ws)
 | _,_,_,_,.nil,s=>s
 | _,_,_,_,.cons r t,s=>.cons r (Vals.append t s)
theorem Vals.take:∀ {xs:List V} {us:List Value} (n:Nat),Vals xs us->Vals (xs.take n) (us.take n)
 | _,_,0,_=>.nil
 | _,_,_ + 1,.nil=>.nil
 | _,_,n + 1,.cons r t=>.cons r (Vals.take n t)
theorem Vals.drop:∀ {xs:List V} {us:List Value} (n:Nat),Vals xs us->Vals (xs.drop n) (us.drop n)
 | _,_,0,r=>r
 | _,_,_ + 1,.nil=>.nil
 | _,_,n + 1,.cons _ t=>Vals.drop n t
noncomputable def RelO:Option V->Option Value->Prop
 | some v,some u=>RelV v u
 | none,none=>True
 | _,_=>False
noncomputable def KV {κ:Type}:List (κ×V)->List (κ×Value)->Prop:=Paired fun (p:κ×V) (q:κ×Value)=>p.1=q.1/\RelV p.2 q.2
noncomputable def kV:Key->V
 | .inl i=>.int i
 | .inr x=>.str x
inductive HO where
 /-- a list -/
 | lst (xs:List V)
 /-- a tuple (never changes) -/
 | tup (xs:List V)
 /-- a dict whose keys are ints and texts;one whose keys are tuples of ints and texts (the empty one is both) -/
 | dK (kvs:List (Key×V)) | dT (kvs:List (List Key×V))
 /-- a set of ints: its members,its size -/
 | set (S:Int->Bool) (n:Nat)
 /-- an instance of the class at C,its dict at dx,its attributes -/
 | ins (C dx:Addr) (fs:List (Str×V))
 /-- the dict of the instance at x -/
 | own (x:Addr)
 /-- the dict of an exception -/
 | xd (fs:List (Str×V))
 /-- a bound method,f of x -/
 | met (f x:Addr)
 /-- a range object lo,lo + 1,.. below hi -/
 | rng (lo hi:Int)
 /-- a thing that is known to the object (the script;a dict while a loop walks it): read,never written while it is so -/
 | frz (o:Obj) (u:HO)
 /-- a code object's table -/
 | tbl (ps:Array Value)
 /-- any other thing,by what is true of its one object (a def of one's own: SetO a S n:=HO.ext fun h=>..) -/
 | ext (φ:Heap->Prop)
noncomputable abbrev Hp:=Addr->Option HO
noncomputable def upd (H:Hp) (a:Addr) (o:HO):Hp:=fun b=>if b=a then some o else H b
theorem qb:upd H a o a=some o:=by unfold upd;rw [yE rfl]
theorem qe (h:b≠a):upd H a o b=H b:=by unfold upd;rw [yy h]
theorem zv {u:HO} (h:H a=some o) (h':H b=some u) (d:o≠u):a≠b:=by
 intro e;subst e;rw [h] at h';exact d (ym h')
theorem qj (h:H a=some o) (h':H b=none):a≠b:=by
 intro e;subst e;rw [h] at h';cases h'
section
variable (P:Program) (w:World)
noncomputable def ObjOk (H:Hp) (h:Heap) (a:Addr):HO->Prop
 | .lst xs=>xs.length<=sizeLine/\∃ (its:List Value) (n:Nat),Vals xs its/\h.get? a=some { cls:=.type "list",data:=.seq its.toArray n }
 | .tup xs=>xs.length<=sizeLine/\∃ its:List Value,Vals xs its/\IsTup h a its.toArray
 | .dK kvs=>kvs.length<=sizeLine/\(a==sysModules)=false/\∃ vs,KV kvs vs/\h.DictOf (jh P w) a vs
 | .dT kvs=>kvs.length<=sizeLine/\(a==sysModules)=false/\∃ xs:List (List Key×Addr×Value),
   Paired (fun (p:List Key×V) (q:List Key×Addr×Value)=>p.1=q.1/\H q.2.1=some (.tup (p.1.map kV))/\RelV p.2 q.2.2) kvs xs /\
   ∃ o es ep,h.get? a=some o/\o.ExactDict/\o.data=.dict es ep/\es.toList=xs.map (entryOfKey (tupleKind (jh P w)))/\(xs.map (·.1)).Nodup
 | .set S n=>h.SetOf (intKind P w) a S n
 | .ins C dx fs=>H dx=some (.own a)/\fs.length<=1000/\dx≠a/\h.get? a=some (PySem.W.instObj C dx) /\
   ∃ mA,h.Ns1 dx mA/\(∀ f,RelO (fs.lookup f) (mA f))/\PySem.Within mA (fs.map (·.1))
 | .own _=>∃ o,h.get? a=some o
 | .xd fs=>∃ mA,h.Ns1 a mA/\∀ f,RelO (fs.lookup f) (mA f)
 | .rng lo hi=>∃ t u v,h.get? a=some { cls:=.type "range",data:=.fields #[.int lo t,.int hi u,.int 1 v] }
 | .frz o u=>h.get? a=some o/\ObjOk H h a u
 | .tbl ps=>h.get? a=some { cls:=.none,data:=.fields ps }
 | .met f x=>h.get? a=some (PySem.W.methodObj (.ref f) (.ref x))
 | .ext φ=>φ h/\(∃ o,h.get? a=some o)/\∀ h1 h2:Heap,φ h1->(∀ o,h1.get? a=some o->h2.get? a=some o)->φ h2
noncomputable def HOk (H:Hp) (h:Heap):Prop:=∀ a o,H a=some o->ObjOk P w H h a o
end
section
variable {P:Program} {w:World} {H H':Hp} {h h':Heap} {a:Addr} {o:HO}
theorem ObjOk.lt (x:ObjOk P w H h a o):a < h.objs.size:=by
 cases o with
 | lst xs=>obtain ⟨_,_,_,_,e⟩:=x;exact yH e
 | tup xs=>obtain ⟨_,_,_,p⟩:=x;exact p.lt
 | dK kvs=>obtain ⟨_,_,_,_,o,_,_,e,_⟩:=x;exact yH e
 | dT kvs=>obtain ⟨_,_,_,_,o,_,_,e,_⟩:=x;exact yH e
 | set S n=>obtain ⟨o,_,_,_,e,_⟩:=x;exact yH e
 | ins C dx fs=>obtain ⟨_,_,_,e,_⟩:=x;exact yH e
 | own y=>obtain ⟨_,e⟩:=x;exact yH e
 | xd fs=>obtain ⟨_,⟨_,_,_,e,_⟩,_⟩:=x;exact yH e
 | rng lo hi=>obtain ⟨_,_,_,e⟩:=x;exact yH e
 | frz ob u=>obtain ⟨e,_⟩:=x;exact yH e
 | tbl ps=>exact yH (show h.get? a=some _ from x)
 | met f y=>exact yH (show h.get? a=some _ from x)
 | ext φ=>obtain ⟨_,⟨_,e⟩,_⟩:=x;exact yH e
theorem Paired.mapP {β:Type} {F G:α->β->Prop}:∀ {l₁:List α} {l₂:List β},Paired F l₁ l₂->(∀ a b,F a b->G a b)->Paired G l₁ l₂
 | _,_,.nil,_=>.nil
 | _,_,.cons r t,f=>.cons (f _ _ r) (Paired.mapP t f)
theorem ObjOk.stay (x:ObjOk P w H h a o) (k:∀ b u,(b=a\/H b=some (.own a))->h.get? b=some u->h'.get? b=some u)
  (ho:∀ b,H b=some (.own a)->H' b=some (.own a)) (ht:∀ b xs,H b=some (.tup xs)->H' b=some (.tup xs)):ObjOk P w H' h' a o:=by
 induction o with
 | lst xs=>obtain ⟨z,its,n,r,e⟩:=x;exact ⟨z,its,n,r,k _ _ (.inl rfl) e⟩
 | tup xs=>obtain ⟨z,its,r,ob,e,c⟩:=x;exact ⟨z,its,r,ob,k _ _ (.inl rfl) e,c⟩
 | dK kvs=>obtain ⟨z,y,vs,r,ob,es,ep,e,c⟩:=x;exact ⟨z,y,vs,r,ob,es,ep,k _ _ (.inl rfl) e,c⟩
 | dT kvs =>
  obtain ⟨z,y,xs,r,ob,es,ep,e,c⟩:=x;exact ⟨z,y,xs,Paired.mapP r fun p q z=>⟨z.1,ht _ _ z.2.1,z.2.2⟩,ob,es,ep,k _ _ (.inl rfl) e,c⟩
 | set S n=>obtain ⟨ob,es,ep,t,e,c⟩:=x;exact ⟨ob,es,ep,t,k _ _ (.inl rfl) e,c⟩
 | ins C dx fs =>
  obtain ⟨d,z,ne,e,mA,⟨od,es,ep,e2,c⟩,r⟩:=x;exact ⟨ho _ d,z,ne,k _ _ (.inl rfl) e,mA,⟨od,es,ep,k _ _ (.inr d) e2,c⟩,r⟩
 | own y=>obtain ⟨ob,e⟩:=x;exact ⟨ob,k _ _ (.inl rfl) e⟩
 | xd fs=>obtain ⟨mA,⟨od,es,ep,e,c⟩,r⟩:=x;exact ⟨mA,⟨od,es,ep,k _ _ (.inl rfl) e,c⟩,r⟩
 | rng lo hi=>obtain ⟨t,u,v,e⟩:=x;exact ⟨t,u,v,k _ _ (.inl rfl) e⟩
 | frz ob u ih=>obtain ⟨e,q⟩:=x;exact ⟨k _ _ (.inl rfl) e,ih q⟩
 | tbl ps =>
  have e:h.get? a=some { cls:=.none,data:=.fields ps }:=x;show h'.get? a=some { cls:=.none,data:=.fields ps };exact k a _ (.inl rfl) e
 | met f y =>
  have e:h.get? a=some (PySem.W.methodObj (.ref f) (.ref y)):=x;show h'.get? a=some (PySem.W.methodObj (.ref f) (.ref y));exact k a _ (.inl rfl) e
 | ext φ=>obtain ⟨p,⟨o,e⟩,st⟩:=x;exact ⟨st _ _ p fun o q=>k _ _ (.inl rfl) q,⟨o,k _ _ (.inl rfl) e⟩,st⟩
theorem HOk.lt (x:HOk P w H h) (e:H a=some o):a < h.objs.size:=(x a o e).lt
theorem HOk.fresh (x:HOk P w H h) (e:h.objs.size<=a):H a=none:=by
 cases q:H a with
 | none=>rfl
 | some u=>exact absurd (yj (x.lt q) e) (Yt _)
theorem HOk.kept (x:HOk P w H h) (k:∀ b u,h.get? b=some u->h'.get? b=some u):HOk P w H h':=fun a o e =>
 (x a o e).stay (fun b u _ q=>k b u q) (fun _ q=>q) fun _ _ q=>q
theorem HOk.laid (x:HOk P w H h) (k:∀ b u,h.get? b=some u->h'.get? b=some u) (hp:h.objs.size<=a) (new:ObjOk P w (upd H a o) h' a o):HOk P w (upd H a o) h':=fun b u e=>by
 have hn:=x.fresh hp;by_cases hb:b=a
 ·subst hb;rw [qb] at e;cases e;exact new
 ·rw [qe hb] at e;exact (x b u e).stay (fun c v _ q=>k c v q) (fun c q=>by rw [qe (qj q hn)];exact q) fun c xs q=>by rw [qe (qj q hn)];exact q
end
noncomputable def Rd (H:Hp) (a:Addr) (u:HO):Prop:=H a=some u\/∃ o,H a=some (.frz o u)
theorem Rd.ok {u:HO} (r:Rd H a u) (x:HOk P w H h):ObjOk P w H h a u:=by
 rcases r with r | ⟨o,r⟩
 ·exact x a u r
 ·obtain ⟨_,q⟩:=x a _ r;exact q
noncomputable def Mut:Option HO->Prop
 | some (.lst _)=>True
 | some (.dK _)=>True
 | some (.dT _)=>True
 | some (.set _ _)=>True
 | some (.ins _ _ _)=>True
 | some (.ext _)=>True
 | _=>False
section
variable {P:Program} {w:World} {H:Hp} {h h':Heap} {x e:Addr} {o':HO}
theorem HOk.write (ok:HOk P w H h) (mu:Mut (H x)) (he:e=x\/H e=some (.own x)) (k:∀ b u,b≠e->h.get? b=some u->h'.get? b=some u) (heo:∃ u,h'.get? e=some u)
  (new:ObjOk P w (upd H x o') h' x o'):HOk P w (upd H x o') h':=fun b u q=>by
 have nown:∀ c y,H c=some (.own y)->c≠x:=fun c y r z=>by subst z;rw [r] at mu;exact mu
 have ntup:∀ c xs,H c=some (.tup xs)->c≠x:=fun c xs r z=>by subst z;rw [r] at mu;exact mu
 by_cases hb:b=x
 ·subst hb;rw [qb] at q;cases q;exact new
 ·rw [qe hb] at q;by_cases hbe:b=e
  ·have q':H b=some (.own x):=by
    rcases he with z | z
    ·exact absurd (hbe.trans z) hb
    ·rw [hbe];exact z
   rw [q] at q';cases q';obtain ⟨v,hv⟩:=heo;exact ⟨v,by rw [hbe];exact hv⟩
  ·refine (ok b u q).stay (fun c v hc r=>k c v ?_ r) (fun c r=>by rw [qe (nown c b r)];exact r) fun c xs r=>by rw [qe (ntup c xs r)];exact r
   rcases hc with rfl | hc
   ·exact hbe
   ·rintro rfl;rcases he with z | z
    ·exact nown c b hc z
    ·rw [hc] at z;cases z;exact hb rfl
end
structure Un (fs ex:List Addr) (H H':Hp) (h h':Heap):Prop where
 keep:∀ b o,h.get? b=some o->H b=none->b∉fs->b∉ex->h'.get? b=some o
 slot:∀ b o,h.get? b=some o->H b=none->b∈fs->b∉ex->∃ sl,h'.get? b=some { o with slots:=sl }
 free:∀ b o,h.get? b=some o->H b=none->b∉ex->H' b=none
 there:∀ b o,h.get? b=some o->b∉ex->∃ o',h'.get? b=some o'
 tups:∀ b xs,H b=some (.tup xs)->H' b=some (.tup xs)
 frzs:∀ b o u,H b=some (.frz o u)->H' b=some (.frz o u)
 tbls:∀ b ps,H b=some (.tbl ps)->∃ more,H' b=some (.tbl (ps++more))
section
variable {fs fs' ex ex':List Addr} {H H1 H2:Hp} {h h1 h2 h':Heap} {a x e:Addr} {o:HO}
theorem Un.any (u:Un fs ex H H1 h h1) {ob:Obj} (q:h.get? b=some ob) (n:H b=none) (hx:b∉ex):∃ sl,h1.get? b=some { ob with slots:=sl }:=by
 by_cases hb:b∈fs
 ·exact u.slot b ob q n hb hx
 ·exact ⟨ob.slots,u.keep b ob q n hb hx⟩
theorem Un.kept (k:∀ b u,h.get? b=some u->h'.get? b=some u):Un fs ex H H h h':=
 ⟨fun b ob q _ _ _=>k b ob q,fun b ob q _ _ _=>⟨ob.slots,k b ob q⟩,fun _ _ _ n _=>n,fun b ob q _=>⟨ob,k b ob q⟩,fun _ _ q=>q,fun _ _ _ q=>q,fun _ ps q=>⟨#[],by rw [q];simp⟩⟩
theorem Un.refl:Un fs ex H H h h:=Un.kept fun _ _ q=>q
theorem Un.laid (k:∀ b u,h.get? b=some u->h'.get? b=some u) (hp:h.objs.size<=a) (hn:H a=none):Un fs ex H (upd H a o) h h' where
 keep:=fun b u q _ _ _=>k b u q
 slot:=fun b u q _ _ _=>⟨u.slots,k b u q⟩
 free:=fun b u q n _=>by rw [qe (yF (yj (yH q) hp))];exact n
 there:=fun b u q _=>⟨u,k b u q⟩
 tups:=fun b xs q=>by rw [qe (qj q hn)];exact q
 frzs:=fun b u xs q=>by rw [qe (qj q hn)];exact q
 tbls:=fun b ps q=>⟨#[],by rw [qe (qj q hn),q];simp⟩
theorem Un.write (mu:Mut (H x)) (he:e=x\/H e=some (.own x)) (k:∀ b u,b≠e->h.get? b=some u->h'.get? b=some u) (heo:∃ u,h'.get? e=some u):Un fs ex H (upd H x o) h h':=by
 have hx:∀ b,H b=none->b≠x:=fun b n z=>by subst z;rw [n] at mu;exact mu
 have hb:∀ b,H b=none->b≠e:=fun b n z=>by
  subst z;rcases he with r | r
  ·exact hx b n r
  ·rw [n] at r;cases r
 have hm:∀ b u,H b=some u->¬ Mut (some u)->b≠x:=fun b u q nm z=>by subst z;rw [q] at mu;exact nm mu
 refine ⟨fun b u q n _ _=>k b u (hb b n) q,fun b u q n _ _=>⟨u.slots,k b u (hb b n) q⟩,fun b u q n _=>by rw [qe (hx b n)];exact n,fun b u q _=>?_,
  fun b xs q=>by rw [qe (hm b _ q fun z=>z)];exact q,fun b u xs q=>by rw [qe (hm b _ q fun z=>z)];exact q,fun b ps q=>⟨#[],by rw [qe (hm b _ q fun z=>z),q];simp⟩⟩
 by_cases hbe:b=e
 ·subst hbe;exact heo
 ·exact ⟨u,k b u hbe q⟩
end
noncomputable def trk (h:Heap) (H:Hp):List Addr:=(List.range h.objs.size).filter fun a=>(H a).isSome
noncomputable def qd5 (h:Heap) (H:Hp):Heap:=PySem.W.hideAll h (trk h H)
theorem hidT_size (h:Heap) (H:Hp):(qd5 h H).objs.size=h.objs.size:=PySem.W.hideAll_size _ _
theorem hidT_get {o:Obj} (e:h.get? b=some o) (n:H b=none):(qd5 h H).get? b=some o:=
 PySem.W.hideAll_get _ e fun hm=>by
  have q:(H b).isSome=true:=(yp.mp hm).2;rw [n] at q;simp at q
theorem of_hidT {o:Obj} (e:(qd5 h H).get? b=some o):h.get? b=some o/\H b=none:=by
 have e':h.get? b=some o:=PySem.W.of_hideAll (trk h H) e;refine ⟨e',?_⟩
 cases q:H b with
 | none=>rfl
 | some x =>
  have hm:b∈trk h H:=yp.mpr ⟨YI.mpr (yH e'),by simp [q]⟩;have z:(qd5 h H).get? b=none:=PySem.W.hideAll_none (trk h H) hm;rw [z] at e;cases e
noncomputable def allNews (g h:Heap) (L:Addr):List (Addr×Obj):=(List.range h.objs.size).filterMap fun a=>if a=L\/(g.get? a).isSome=true then none else (h.get? a).map fun o=>(a,o)
noncomputable def qdf (g h:Heap) (L d:Addr):List (Addr×Obj):=(allNews g h L).filter fun p=>decide (p.1≠d)
structure Mod (K:yg) (mg:Str->Option Value) (base:Heap):Prop where
 kin:K.In base
 glob:base.Ns mainGlobals mg
 blt:∃ mb,base.Ns builtinsNs mb/\∀ x:Str,x≠"__name__"->mb x=bootBuiltins x
 nolimit:base.NoLimit
structure Cx where
 prog:Program
 w:World
 K:yg
 mg:Str->Option Value
 base:Heap
 A:Around
 N:List Str
 s₀:Shared
 H₀:Hp
 env:Env
 outer:List Env
 stack:List Env
 ex:List Addr
 fn:Str->Bool
 calm:Bool
 pn:List (Addr×Obj)
 xe:Value->Shared->Prop
noncomputable def frs (l:List Env):List Addr:=l.filterMap (·.frame)
noncomputable abbrev Cx.fs (X:Cx):List Addr:=frs X.outer
noncomputable def Vis (sc:Scope) (x:Str):Prop:=sc.names.lookup x=some .local\/sc.names.lookup x=some .cell\/sc.names.lookup x=some .free
noncomputable def Loc (sc:Scope) (x:Str):Prop:=sc.names.lookup x=some .local\/sc.names.lookup x=some .cell
noncomputable def Look (env:Env) (h:Heap) (m:Str->Option Value) (x:Str) (u:Value):Prop:=
 (env.kindOf x=some .local/\m x=some u)\/((env.kindOf x=some .cell\/env.kindOf x=some .free)/\∃ c,env.cells.lookup x=some c/\h.IsCell c (some u))
structure Cx.Ok (X:Cx):Prop where
 mod:Mod X.K X.mg X.base
 kind:X.env.scope.kind=.function
 glob:X.env.globals=mainGlobals
 blt:X.env.builtins=builtinsNs
 above:X.s₀.heap.objs.size<=X.env.locals
 inj:∀ x y c,X.env.cells.lookup x=some c->X.env.cells.lookup y=some c->x=y
 has:∀ x,(X.env.kindOf x=some .cell\/X.env.kindOf x=some .free)->∃ c,X.env.cells.lookup x=some c
 cab:∀ x c,X.fn x=true->X.env.cells.lookup x=some c->X.s₀.heap.objs.size<=c
 hd:X.calm=true->X.A.handled=none
 frames:X.A.frames=some X.stack
 stk:X.stack=X.outer\/(X.stack=X.env::X.outer/\X.env.frame=some X.env.locals)
 exf:∀ b∈X.ex,b≠X.env.locals/\∀ x c,X.env.cells.lookup x=some c->c≠b
 bs:∀ b o,X.base.get? b=some o->X.s₀.heap.get? b=some o/\X.H₀ b=none
 bsz:X.base.objs.size<=X.s₀.heap.objs.size
 noex:∀ b o,X.base.get? b=some o->b∉X.ex
 exfs:∀ b∈X.ex,b∉X.fs
 funs:X.s₀.heap.FunFrames X.base X.outer
 frf:∀ b∈X.fs,X.H₀ b=none
structure Inv (X:Cx) (pins:List (Addr×Obj)) (σ:List (Option V)) (H:Hp) (s:Shared):Prop where
 ok:X.Ok
 os:s.os=X.s₀.os
 bare:AllBare s.gens
 base:Un X.fs X.ex X.H₀ H X.s₀.heap s.heap
 loc:∃ m,s.heap.Ns X.env.locals m/\∀ (i:Nat) (x:Str) (v:V),X.N[i]?=some x->σ[i]?=some (some v)->Vis X.env.scope x->∃ u,RelV v u/\Look X.env s.heap m x u
 cell:∀ x c,X.env.cells.lookup x=some c->∃ v,s.heap.IsCell c v
 free:H X.env.locals=none
 freeC:∀ x c,X.env.cells.lookup x=some c->H c=none
 pin:∀ p∈X.pn++pins,s.heap.get? p.1=some p.2/\H p.1=none/\p.1≠X.env.locals/\p.1∉X.fs/\∀ v,p.2.data≠.cell v
 hok:HOk X.prog X.w H s.heap
 len:σ.length=X.N.length
section
variable {X:Cx} {pins:List (Addr×Obj)} {σ:List (Option V)} {H H':Hp} {s:Shared} {h':Heap}
theorem Cx.Ok.nofr (ok:X.Ok) {o:Obj} (e:X.base.get? b=some o):b∉X.fs:=fun hb=>by
 have:=(ok.funs.mem hb).1;rw [e] at this;cases this
theorem Inv.bs (I:Inv X pins σ H s):∀ b o,X.base.get? b=some o->s.heap.get? b=some o/\H b=none:=fun b o e =>
 ⟨I.base.keep b o (I.ok.bs b o e).1 (I.ok.bs b o e).2 (I.ok.nofr e) (I.ok.noex b o e),I.base.free b o (I.ok.bs b o e).1 (I.ok.bs b o e).2 (I.ok.noex b o e)⟩
theorem Inv.bk (I:Inv X pins σ H s):∀ b o,X.base.get? b=some o->s.heap.get? b=some o:=fun b o e=>(I.bs b o e).1
theorem Inv.mod (I:Inv X pins σ H s):Mod X.K X.mg X.base:=I.ok.mod
theorem Inv.kIn (I:Inv X pins σ H s):X.K.In s.heap:=I.ok.mod.kin.keeps I.bk
theorem Inv.lt (I:Inv X pins σ H s):X.env.locals < s.heap.objs.size:=let ⟨_,hn,_⟩:=I.loc;hn.lt
theorem Inv.sz (I:Inv X pins σ H s):X.s₀.heap.objs.size<=s.heap.objs.size:=yi I.ok.above (yZ I.lt)
theorem Inv.nofs (I:Inv X pins σ H s) (h:s.heap.objs.size<=a):a∉X.fs:=fun hb=>by
 obtain ⟨_,o,ho,_⟩:=I.ok.funs.mem hb;exact absurd (yj (yH ho) (yi I.sz h)) (Yt _)
theorem Inv.cne (I:Inv X pins σ H s):∀ x c,X.env.cells.lookup x=some c->c≠X.env.locals:=fun x c e z=>by
 obtain ⟨v,o,ho,hd⟩:=I.cell x c e;obtain ⟨m,⟨o',es,ep,ho',hd',_⟩,_⟩:=I.loc;rw [z,ho'] at ho;cases ho;rw [hd'] at hd;cases hd
theorem Inv.funs (I:Inv X pins σ H s):s.heap.FunFrames X.base X.outer:=by
 have all:∀ (l:List Env),(∀ b∈frs l,b∈X.fs)->X.s₀.heap.FunFrames X.base l->s.heap.FunFrames X.base l:=by
  intro l
  induction l with
  | nil=>intro _ _;trivial
  | cons env r ih =>
   intro hs hl;obtain ⟨hk,⟨L,o,hf,hn,ho,hd⟩,hr⟩:=hl;have hL:L∈X.fs:=hs L (by unfold frs;rw [XM,hf];exact yL);obtain ⟨sl,e⟩:=I.base.slot L o ho (I.ok.frf L hL) hL fun z=>I.ok.exfs L z hL;exact ⟨hk,⟨L,_,hf,hn,e,hd⟩,ih (fun b hb=>hs b (by unfold frs;rw [XM,hf];exact yA _ hb)) hr⟩
 exact all X.outer (fun _ hb=>hb) I.ok.funs
theorem Inv.stack (I:Inv X pins σ H s):s.heap.FunFrames X.base X.stack:=by
 rcases I.ok.stk with e | ⟨e,hf⟩
 ·rw [e];exact I.funs
 ·rw [e];obtain ⟨m,hn,_⟩:=I.loc;refine .cons (by rw [I.ok.kind];decide) hf hn ?_ I.funs;exact Heap.get?_none_of_le (yi I.ok.bsz I.ok.above)
theorem Inv.stkSub (I:Inv X pins σ H s):∀ b∈frs X.stack,b∈X.env.locals::X.fs:=fun b hb=>by
 rcases I.ok.stk with e | ⟨e,hf⟩
 ·rw [e] at hb;exact yA _ hb
 ·rw [e] at hb;unfold frs at hb;rw [XM,hf] at hb;exact hb
theorem Inv.stkFree (I:Inv X pins σ H s):∀ b∈frs X.stack,H b=none:=fun b hb=>by
 rcases yx.mp (I.stkSub b hb) with e | hb
 ·rw [e];exact I.free
 ·obtain ⟨_,o,ho,_⟩:=I.ok.funs.mem hb;exact I.base.free b o ho (I.ok.frf b hb) fun z=>I.ok.exfs b z hb
theorem Inv.step (I:Inv X pins σ H s)
  (hch:∀ b∈ch,(b∈X.ex\/X.s₀.heap.objs.size<=b)/\b≠X.env.locals/\(∀ x c,X.env.cells.lookup x=some c->c≠b)/\∀ p∈X.pn++pins,p.1≠b)
  (keep:∀ b o,b≠X.env.locals->b∉X.fs->b∉ch->s.heap.get? b=some o->H b=none->h'.get? b=some o)
  (slot:∀ b o,b≠X.env.locals->b∈X.fs->b∉ch->s.heap.get? b=some o->H b=none->∃ sl,h'.get? b=some { o with slots:=sl }) (free:∀ b o,b∉ch->s.heap.get? b=some o->H b=none->H' b=none)
  (there:∀ b o,b∉ch->s.heap.get? b=some o->∃ o',h'.get? b=some o')
  (tups:∀ b xs,H b=some (.tup xs)->H' b=some (.tup xs)) (frzs:∀ b o u,H b=some (.frz o u)->H' b=some (.frz o u)) (tbls:∀ b ps,H b=some (.tbl ps)->∃ more,H' b=some (.tbl (ps++more)))
  (ns:∀ m,s.heap.Ns X.env.locals m->h'.Ns X.env.locals m) (hok:HOk X.prog X.w H' h') (hg:AllBare g') :
  Inv X pins σ H' { s with heap:=h',gens:=g',drawn:=d',toks:=t' }:=by
 have neL:∀ b o,X.s₀.heap.get? b=some o->b≠X.env.locals:=fun b o e=>yF (yj (yH e) I.ok.above)
 have neC:∀ b o,X.s₀.heap.get? b=some o->b∉X.ex->b∉ch:=fun b o e hx hb=>by
  rcases (hch b hb).1 with z | z
  ·exact hx z
  ·exact absurd (yj (yH e) z) (Yt _)
 have cellK:∀ x c,X.env.cells.lookup x=some c->∀ v,s.heap.IsCell c v->h'.IsCell c v:=fun x c e v ⟨o,ho,hd⟩=>by
  have nch:c∉ch:=fun z=>(hch c z).2.2.1 x c e rfl;by_cases hc:c∈X.fs
  ·obtain ⟨sl,q⟩:=slot c o (I.cne x c e) hc nch ho (I.freeC x c e);exact ⟨_,q,hd⟩
  ·exact ⟨o,keep c o (I.cne x c e) hc nch ho (I.freeC x c e),hd⟩
 refine ⟨I.ok,I.os,hg,⟨fun b o e n hb hx=>?_,fun b o e n hb hx=>?_,fun b o e n hx=>?_,fun b o e hx=>?_,fun b xs e=>tups b xs (I.base.tups b xs e),fun b o xs e=>frzs b o xs (I.base.frzs b o xs e),fun b ps e=>?_⟩,?_,fun x c e=>?_,?_,fun x c e=>?_,fun p hp=>?_,hok,I.len⟩
 ·exact keep b o (neL b o e) hb (neC b o e hx) (I.base.keep b o e n hb hx) (I.base.free b o e n hx)
 ·obtain ⟨sl,e1⟩:=I.base.slot b o e n hb hx;obtain ⟨sl',e2⟩:=slot b _ (neL b o e) hb (neC b o e hx) e1 (I.base.free b o e n hx);exact ⟨sl',e2⟩
 ·obtain ⟨o',e1⟩:=I.base.there b o e hx;exact free b o' (neC b o e hx) e1 (I.base.free b o e n hx)
 ·obtain ⟨o',e1⟩:=I.base.there b o e hx;exact there b o' (neC b o e hx) e1
 ·obtain ⟨m1,e1⟩:=I.base.tbls b ps e;obtain ⟨m2,e2⟩:=tbls b _ e1;exact ⟨m1++m2,by rw [e2,Array.append_assoc]⟩
 ·obtain ⟨m,hn,hl⟩:=I.loc;refine ⟨m,ns m hn,fun i x v e1 e2 e3=>?_⟩;obtain ⟨u,r,l⟩:=hl i x v e1 e2 e3;refine ⟨u,r,?_⟩;rcases l with l | ⟨k,c,e,z⟩
  ·exact .inl l
  ·exact .inr ⟨k,c,e,cellK x c e _ z⟩
 ·obtain ⟨v,z⟩:=I.cell x c e;exact ⟨v,cellK x c e v z⟩
 ·obtain ⟨m,⟨o,_,_,ho,_⟩,_⟩:=I.loc;exact free _ o (fun z=>(hch _ z).2.1 rfl) ho I.free
 ·obtain ⟨v,o,ho,hd⟩:=I.cell x c e;exact free c o (fun z=>(hch c z).2.2.1 x c e rfl) ho (I.freeC x c e)
 ·obtain ⟨e,n,ne,nf,d⟩:=I.pin p hp;have nch:p.1∉ch:=fun z=>(hch p.1 z).2.2.2 p hp rfl;exact ⟨keep p.1 p.2 ne nf nch e n,free p.1 p.2 nch e n,ne,nf,d⟩
theorem Inv.un (I:Inv X pins σ H s) (u:Un X.fs [] H H' s.heap h') (hok:HOk X.prog X.w H' h'):Inv X pins σ H' { s with heap:=h',toks:=t' }:=by
 obtain ⟨m,⟨o,es,ep,ho,r⟩,_⟩:=id I.loc;obtain ⟨sl,hL⟩:=u.any ho I.free (by simp)
 exact I.step (g':=s.gens) (d':=s.drawn) (ch:=[]) (fun _ z=>nomatch z) (fun b o _ hb _ e n=>u.keep b o e n hb (by simp)) (fun b o _ hb _ e n=>u.slot b o e n hb (by simp)) (fun b o _ e n=>u.free b o e n (by simp)) (fun b o _ e=>u.there b o e (by simp)) u.tups u.frzs u.tbls (fun m' hm=>by
  obtain ⟨o',es',ep',ho',r'⟩:=hm;rw [ho] at ho';cases ho';exact ⟨_,es',ep',hL,r'⟩) hok I.bare
theorem Inv.call (I:Inv X pins σ H s) (u:Un (frs X.stack) ch H H' s.heap h') (hok:HOk X.prog X.w H' h') (hg:AllBare g')
  (hch:∀ b∈ch,(b∈X.ex\/X.s₀.heap.objs.size<=b)/\b≠X.env.locals/\(∀ x c,X.env.cells.lookup x=some c->c≠b)/\∀ p∈X.pn++pins,p.1≠b) :
  Inv X pins σ H' { s with heap:=h',gens:=g',drawn:=d',toks:=t' }:=by
 obtain ⟨m,⟨o,es,ep,ho,r⟩,_⟩:=id I.loc;obtain ⟨sl,hL⟩:=u.any ho I.free fun z=>(hch _ z).2.1 rfl
 exact I.step (ch:=ch) hch (fun b o hL hb hc e n=>u.keep b o e n (fun z=>(yx.mp (I.stkSub b z)).elim hL hb) hc) (fun b o _ _ hc e n=>u.any e n hc) (fun b o hc e n=>u.free b o e n hc) (fun b o hc e=>u.there b o e hc) u.tups u.frzs u.tbls (fun m' hm=>by
  obtain ⟨o',es',ep',ho',r'⟩:=hm;rw [ho] at ho';cases ho';exact ⟨_,es',ep',hL,r'⟩) hok hg
theorem Inv.turned (I:Inv X pins σ H s) (k:∀ b o,b≠it->s.heap.get? b=some o->h'.get? b=some o) (hn:H it=none) (hL:it≠X.env.locals)
  (h1:it∈X.ex\/X.s₀.heap.objs.size<=it) (h2:∀ x c,X.env.cells.lookup x=some c->c≠it) (h3:∀ p∈X.pn++pins,p.1≠it):Inv X pins σ H { s with heap:=h',toks:=t' }:=by
 have nit:∀ b u,H b=some u->b≠it:=fun b u e z=>by rw [z,hn] at e;cases e
 refine I.step (g':=s.gens) (d':=s.drawn) (ch:=[it]) (fun b hb=>?_) (fun b o _ _ hc e _=>k b o (fun z=>hc (by simp [z])) e) (fun b o _ _ hc e _=>⟨o.slots,k b o (fun z=>hc (by simp [z])) e⟩) (fun _ _ _ _ n=>n)
  (fun b o hc e=>⟨o,k b o (fun z=>hc (by simp [z])) e⟩) (fun _ _ e=>e) (fun _ _ _ e=>e) (fun b ps e=>⟨#[],by rw [e];simp⟩) (fun m hm=>?_) (fun b u e=>?_) I.bare
 ·have e:b=it:=by simpa using hb
  subst e;exact ⟨h1,hL,h2,h3⟩
 ·obtain ⟨o,es,ep,ho,r⟩:=hm;exact ⟨o,es,ep,k _ o (Ye hL) ho,r⟩
 ·refine (I.hok b u e).stay (fun c v hc q=>k c v ?_ q) (fun _ q=>q) fun _ _ q=>q;rcases hc with z | z
  ·rw [z];exact nit b u e
  ·exact nit c _ z
theorem Inv.tok (I:Inv X pins σ H s) (t:Nat):Inv X pins σ H { s with toks:=t }:=I.un (h':=s.heap) (t':=t) Un.refl I.hok
theorem Inv.kept (I:Inv X pins σ H s) (k:∀ b u,s.heap.get? b=some u->h'.get? b=some u):Inv X pins σ H { s with heap:=h',toks:=t' }:=I.un (Un.kept k) (I.hok.kept k)
theorem Inv.laid (I:Inv X pins σ H s) (k:∀ b u,s.heap.get? b=some u->h'.get? b=some u) (hp:s.heap.objs.size<=a) (new:ObjOk X.prog X.w (upd H a o) h' a o) :
  Inv X pins σ (upd H a o) { s with heap:=h',toks:=t' }:=I.un (Un.laid k hp (I.hok.fresh hp)) (I.hok.laid k hp new)
theorem Inv.write {x e:Addr} (I:Inv X pins σ H s) (mu:Mut (H x)) (he:e=x\/H e=some (.own x)) (k:∀ b u,b≠e->s.heap.get? b=some u->h'.get? b=some u) (heo:∃ u,h'.get? e=some u)
  (new:ObjOk X.prog X.w (upd H x o) h' x o):Inv X pins σ (upd H x o) { s with heap:=h',toks:=t' }:=I.un (Un.write mu he k heo) (I.hok.write mu he k heo new)
theorem Inv.weak {σ':List (Option V)} (I:Inv X pins σ H s) (hl:σ'.length=σ.length) (w:∀ (i:Nat) v,σ'[i]?=some (some v)->σ[i]?=some (some v)):Inv X pins σ' H s:=
 ⟨I.ok,I.os,I.bare,I.base,let ⟨m,hn,hl'⟩:=I.loc;⟨m,hn,fun i x v e1 e2 e3=>hl' i x v e1 (w i v e2) e3⟩,I.cell,I.free,I.freeC,I.pin,I.hok,hl.trans I.len⟩
theorem Inv.pins_of {pins':List (Addr×Obj)} (I:Inv X pins σ H s) (h:∀ p∈pins',s.heap.get? p.1=some p.2/\H p.1=none/\p.1≠X.env.locals/\p.1∉X.fs/\∀ v,p.2.data≠.cell v):Inv X pins' σ H s:=
 ⟨I.ok,I.os,I.bare,I.base,I.loc,I.cell,I.free,I.freeC,fun p hp=>(yz.mp hp).elim (fun z=>I.pin p (yM _ z)) (h p),I.hok,I.len⟩
theorem qcI (hN:N.Nodup) (a:N[i]?=some x) (b:N[j]?=some x):i=j:=by
 obtain ⟨h1,e1⟩:=yc.mp a;obtain ⟨h2,e2⟩:=yc.mp b;exact (List.getElem_inj hN).mp (e1.trans e2.symm)
theorem qbH {Q:Unit->Shared->Prop} (I:Inv X pins σ H s) (hN:X.N.Nodup) (hi:X.N[i]?=some x) (hx:Loc X.env.scope x) (r:RelV v u)
  (h:∀ s',Inv X pins (σ.set i (some v)) H s'->(∃ a,Heap.SameBut a s.heap s'.heap/\(a=X.env.locals\/X.env.cells.lookup x=some a))->Q () s') (hf:X.fn x=true\/X.env.scope.names.lookup x=some .local:=by first | exact .inl rfl | exact .inr rfl | assumption):wpAny M A (storeName X.env x u) Q E s:=by
 obtain ⟨m,hn,hl⟩:=id I.loc;have hcls:(X.env.scope.kind==.class||(X.env.scope.kind==.module&&X.env.locals != X.env.globals))=false:=by rw [I.ok.kind];rfl
 have hiσ:i < σ.length:=by rw [I.len];exact (yc.mp hi).1
 have cne:=I.cne
 have tracked:∀ {a:Addr} {h':Heap},(∃ o,s.heap.get? a=some o/\H a=none)->Heap.SameBut a s.heap h'->HOk X.prog X.w H h':=fun {a h'} ha hs b ob e=>by
  obtain ⟨_,_,hfree⟩:=ha;refine (I.hok b ob e).stay (fun c w' hc q=>(hs.2 c ?_).trans q) (fun _ q=>q) fun _ _ q=>q;rintro rfl;rcases hc with rfl | hc
  ·rw [hfree] at e;cases e
  ·rw [hfree] at hc;cases hc
 rcases hx with hk | hk
 ·refine wpAny_storeName_local hk hn (fun h' hn' hs=>?_) hcls;obtain ⟨oL,_,_,hoL,_⟩:=id hn;refine h _ ⟨I.ok,I.os,I.bare,⟨fun b o e n hb hx=>?_,fun b o e n hb hx=>?_,I.base.free,fun b o e hx=>?_,I.base.tups,I.base.frzs,I.base.tbls⟩,⟨_,hn',fun j y v' e1 e2 e3=>?_⟩,fun y c e=>?_,I.free,I.freeC,fun p hp=>?_,tracked ⟨oL,hoL,I.free⟩ hs,by simpa using I.len⟩ ⟨_,hs,.inl rfl⟩
  ·exact (hs.2 b (yF (yj (yH e) I.ok.above))).trans (I.base.keep b o e n hb hx)
  ·obtain ⟨sl,e1⟩:=I.base.slot b o e n hb hx;exact ⟨sl,(hs.2 b (yF (yj (yH e) I.ok.above))).trans e1⟩
  ·obtain ⟨o',e1⟩:=I.base.there b o e hx;exact ⟨o',(hs.2 b (yF (yj (yH e) I.ok.above))).trans e1⟩
  ·by_cases hj:j=i
   ·subst hj;rw [hi] at e1;cases e1;rw [List.getElem?_set_self hiσ] at e2;cases e2;exact ⟨u,r,.inl ⟨hk,by simp⟩⟩
   ·rw [xo (Ye hj)] at e2;obtain ⟨u',r',q⟩:=hl j y v' e1 e2 e3;refine ⟨u',r',?_⟩;rcases q with ⟨k,e⟩ | ⟨k,c,e,z⟩
    ·refine .inl ⟨k,?_⟩;have:y≠x:=fun e=>hj (qcI hN e1 (e ▸ hi));simp [this,e]
    ·exact .inr ⟨k,c,e,z.sameBut hs (cne y c e)⟩
  ·obtain ⟨w',z⟩:=I.cell y c e;exact ⟨w',z.sameBut hs (cne y c e)⟩
  ·obtain ⟨e,n,ne,nf,d⟩:=I.pin p hp;exact ⟨(hs.2 p.1 ne).trans e,n,ne,nf,d⟩
 ·have hfn:X.fn x=true:=by
   rcases hf with z | z
   ·exact z
   ·rw [z] at hk;cases hk
  obtain ⟨c,hc⟩:=I.ok.has x (.inl hk);obtain ⟨w',z⟩:=I.cell x c hc;refine wpAny_storeName_cell I.ok.kind hk hc z (fun h' hc' hs=>?_);obtain ⟨oc,hoc,hocd⟩:=id z;refine h { s with heap:=h' } ⟨I.ok,I.os,I.bare,⟨fun b o e n hb hx=>?_,fun b o e n hb hx=>?_,I.base.free,fun b o e hx=>?_,I.base.tups,I.base.frzs,I.base.tbls⟩,⟨m,hn.sameBut hs (Ye (cne x c hc)),fun j y v' e1 e2 e3=>?_⟩,fun y c' e=>?_,I.free,I.freeC,fun p hp=>?_,tracked ⟨oc,hoc,I.freeC x c hc⟩ hs,by simpa using I.len⟩ ⟨c,hs,.inr hc⟩
  ·exact (hs.2 b (yF (yj (yH e) (I.ok.cab x c hfn hc)))).trans (I.base.keep b o e n hb hx)
  ·obtain ⟨sl,e1⟩:=I.base.slot b o e n hb hx;exact ⟨sl,(hs.2 b (yF (yj (yH e) (I.ok.cab x c hfn hc)))).trans e1⟩
  ·obtain ⟨o',e1⟩:=I.base.there b o e hx;exact ⟨o',(hs.2 b (yF (yj (yH e) (I.ok.cab x c hfn hc)))).trans e1⟩
  ·by_cases hj:j=i
   ·subst hj;rw [hi] at e1;cases e1;rw [List.getElem?_set_self hiσ] at e2;cases e2;exact ⟨u,r,.inr ⟨.inl hk,c,hc,hc'⟩⟩
   ·rw [xo (Ye hj)] at e2;obtain ⟨u',r',q⟩:=hl j y v' e1 e2 e3;refine ⟨u',r',?_⟩;rcases q with q | ⟨k,c',e,z'⟩
    ·exact .inl q
    ·refine .inr ⟨k,c',e,z'.sameBut hs ?_⟩;rintro rfl;exact hj (qcI hN e1 (I.ok.inj _ _ _ e hc ▸ hi))
  ·by_cases hcc:c'=c
   ·subst hcc;exact ⟨_,hc'⟩
   ·obtain ⟨w2,z2⟩:=I.cell y c' e;exact ⟨w2,z2.sameBut hs hcc⟩
  ·obtain ⟨e,n,ne,nf,d⟩:=I.pin p hp;refine ⟨(hs.2 p.1 ?_).trans e,n,ne,nf,d⟩;intro q;rw [q,hoc] at e;have q':oc=p.2:=ym e;exact d w' (by rw [<- q'];exact hocd)
theorem qcJ {Q:Unit->Shared->Prop} (I:Inv X pins σ H s) (hN:X.N.Nodup) (hi:X.N[i]?=some x) (hx:Loc X.env.scope x) (r:RelV v u)
  (h:∀ s',Inv X pins (σ.set i (some v)) H s'->Q () s') (hf:X.fn x=true\/X.env.scope.names.lookup x=some .local:=by first | exact .inl rfl | exact .inr rfl | assumption):wpAny M A (storeName X.env x u) Q E s:=
 qbH I hN hi hx r (fun s' I' _=>h s' I') hf
theorem Inv.call' (I:Inv X pins σ H s) (ho:s'.os=s.os) (u:Un (frs X.stack) ch H H' s.heap s'.heap) (hok:HOk X.prog X.w H' s'.heap) (hg:AllBare s'.gens)
  (hch:∀ b∈ch,(b∈X.ex\/X.s₀.heap.objs.size<=b)/\b≠X.env.locals/\(∀ x c,X.env.cells.lookup x=some c->c≠b)/\∀ p∈X.pn++pins,p.1≠b):Inv X pins σ H' s':=by
 obtain ⟨h',g',d',t',o'⟩:=s';have e:o'=s.os:=ho;subst e;exact I.call (g':=g') (t':=t') (d':=d') u hok hg hch
end
noncomputable abbrev XK:=Value->Option Addr->Hp->Prop
noncomputable abbrev St:=List (Option V)
noncomputable abbrev VK:=V->Hp->Prop
noncomputable abbrev TE:=St->Hp->VK->Prop
noncomputable abbrev TT:=St->Hp->(Bool->Hp->Prop)->Prop
noncomputable abbrev TA:=St->Hp->(List V->Hp->Prop)->Prop
structure Ends where
 nx:St->Hp->Prop
 rt:VK
 bk:St->Hp->Prop:=fun _ _=>False
 ct:St->Hp->Prop:=fun _ _=>False
noncomputable abbrev TS:=Ends->St->Hp->Prop
noncomputable def EP (X:Cx) (pins:List (Addr×Obj)) (σ:St) (Q:VK) (u:Value) (s':Shared):Prop:=∃ v H',Inv X pins σ H' s'/\RelV v u/\Q v H'
noncomputable def TP (X:Cx) (pins:List (Addr×Obj)) (σ:St) (Q:Bool->Hp->Prop) (b:Bool) (s':Shared):Prop:=∃ H',Inv X pins σ H' s'/\Q b H'
noncomputable def AP (X:Cx) (pins:List (Addr×Obj)) (σ:St) (Q:List V->Hp->Prop) (us:List Value) (s':Shared):Prop:=∃ vs H',Inv X pins σ H' s'/\Vals vs us/\Q vs H'
noncomputable def SP (X:Cx) (pins:List (Addr×Obj)) (D:Ends) (f:Flow) (s':Shared):Prop:=
 match f with
 | .next=>∃ σ' H',Inv X pins σ' H' s'/\D.nx σ' H'
 | .brk=>∃ σ' H',Inv X pins σ' H' s'/\D.bk σ' H'
 | .cont=>∃ σ' H',Inv X pins σ' H' s'/\D.ct σ' H'
 | .ret u=>∃ v σ' H',Inv X pins σ' H' s'/\RelV v u/\D.rt v H'
noncomputable def PE (X:Cx) (e:Expr) (t:TE):Prop:=
 ∀ (pins:List (Addr×Obj)) (s:Shared) (σ:St) (H:Hp) (Q:VK),Inv X pins σ H s->t σ H Q->wpAny (model X.prog X.w) X.A (eval e X.env) (EP X pins σ Q) X.xe s
noncomputable def PT (X:Cx) (e:Expr) (t:TT):Prop:=
 ∀ (pins:List (Addr×Obj)) (s:Shared) (σ:St) (H:Hp) (Q:Bool->Hp->Prop),Inv X pins σ H s->t σ H Q->wpAny (model X.prog X.w) X.A (isTrue e X.env (eval e X.env)) (TP X pins σ Q) X.xe s
noncomputable def PW (X:Cx) (e:Expr) (t:TT):Prop:=
 ∀ (whole:Sem Value) (pins:List (Addr×Obj)) (s:Shared) (σ:St) (H:Hp) (Q:Bool->Hp->Prop),Inv X pins σ H s->t σ H Q->wpAny (model X.prog X.w) X.A (isTrue e X.env whole) (TP X pins σ Q) X.xe s
theorem PW.pt {t:TT} (h:PW X e t):PT X e t:=h _
noncomputable def PA (X:Cx) (es:List Expr) (t:TA):Prop:=
 ∀ (pos:Pos) (pins:List (Addr×Obj)) (s:Shared) (σ:St) (H:Hp) (Q:List V->Hp->Prop),Inv X pins σ H s->t σ H Q->wpAny (model X.prog X.w) X.A (spliced (backTo pos (starEach es X.env))) (AP X pins σ Q) X.xe s
noncomputable def PS (X:Cx) (st:Stmt) (t:TS):Prop:=
 ∀ (pins:List (Addr×Obj)) (s:Shared) (σ:St) (H:Hp) (D:Ends),Inv X pins σ H s->t D σ H->wpAny (model X.prog X.w) X.A (exec st X.env) (SP X pins D) X.xe s
noncomputable def PSs (X:Cx) (st:List Stmt) (t:TS):Prop:=
 ∀ (pins:List (Addr×Obj)) (s:Shared) (σ:St) (H:Hp) (D:Ends),Inv X pins σ H s->t D σ H->wpAny (model X.prog X.w) X.A (execs st X.env) (SP X pins D) X.xe s
theorem thn {t:Sem α} {Q Q':α->Shared->Prop} (h:wpAny M A t Q E s) (hQ:∀ a s,Q a s->Q' a s):wpAny M A t Q' E s:=YQ h hQ fun _ _ x=>x
section
variable {X:Cx}
noncomputable def qfz (i:Nat):TE:=fun σ H Q=>∃ v,σ[i]?=some (some v)/\Q v H
noncomputable def tC (v:V):TE:=fun _ H Q=>Q v H
theorem pe_var (hN:X.N[i]?=some x) (hv:Vis X.env.scope x) (hd:(x==("__debug__":Str))=false:=by decide) (hcd:(x==("__classdict__":Str))=false:=by decide):PE X (.Name x pos) (qfz i):=by
 intro pins s σ H Q I h;obtain ⟨v,e,h⟩:=h;obtain ⟨m,hn,hl⟩:=I.loc;obtain ⟨u,r,l⟩:=hl i x v hN e hv;have fin:EP X pins σ Q u s:=⟨v,H,I,r,h⟩;rcases l with ⟨hk,hm⟩ | ⟨hk,c,hc,hcell⟩
 ·exact wpAny_Name (wpAny_loadName_local I.ok.kind hk hn hm fin) hd
 ·rcases hk with hk | hk
  ·exact wpAny_Name (wpAny_loadName_cell I.ok.kind hk hc hcell fin) hd
  ·exact wpAny_Name (wpAny_loadName_free I.ok.kind hk hc hcell fin hcd) hd
theorem qg {i j pos}:PE X (.Constant (.int i) j pos) (tC (.int i)):=fun _ _ _ H _ I h=>wpAny_Constant_int ⟨.int i,H,I.tok _,⟨_,rfl⟩,h⟩
theorem jW {b j pos}:PE X (.Constant (.bool b) j pos) (tC (.bl b)):=fun _ _ _ H _ I h=>Constant_bool ⟨.bl b,H,I,rfl,h⟩
theorem zS {j pos}:PE X (.Constant .none j pos) (tC .non):=fun _ _ _ H _ I h=>Constant_none ⟨.non,H,I,rfl,h⟩
theorem qbI {x j pos}:PE X (.Constant (.str x) j pos) (tC (.str x)):=fun _ _ _ H _ I h=>Calls.Constant_str ⟨.str x,H,I.tok _,⟨_,rfl⟩,h⟩
noncomputable def Gl (X:Cx) (x:Str):Prop:=X.env.kindOf x=some .globalImplicit
theorem qck {Q:Value->Shared->Prop} (I:Inv X pins σ H s) (hg:Gl X x) (hm:X.mg x=some u) (h:Q u s)
  (hd:(x==("__debug__":Str))=false:=by decide):wpAny (model X.prog X.w) X.A (eval (.Name x pos) X.env) Q E s:=
 Calls.Name_function_global I.ok.kind hg (Calls.loadGlobal_global (by rw [I.ok.glob];exact I.mod.glob.keeps I.bk) hm h) hd
theorem zw {Q:Value->Shared->Prop} (I:Inv X pins σ H s) (hg:Gl X x) (hm:X.mg x=none) (hv:bootBuiltins x=some u) (h:Q u s)
  (hn:x≠"__name__":=by decide) (hd:(x==("__debug__":Str))=false:=by decide):wpAny (model X.prog X.w) X.A (eval (.Name x pos) X.env) Q E s:=by
 obtain ⟨mb,h1,h2⟩:=I.mod.blt;exact Calls.Name_function_global I.ok.kind hg (Calls.loadGlobal_builtin (by rw [I.ok.glob];exact I.mod.glob.keeps I.bk) hm (by rw [I.ok.blt];exact h1.keeps I.bk) ((h2 x hn).trans hv) h) hd
theorem pe_glob (hg:Gl X x) (hm:X.mg x=some u) (r:RelV v u) (hd:(x==("__debug__":Str))=false:=by decide):PE X (.Name x pos) (tC v):=
 fun _ _ _ H _ I h=>qck I hg hm ⟨v,H,I,r,h⟩ hd
theorem jB (hg:Gl X x) (hm:X.mg x=none) (hv:bootBuiltins x=some u) (r:RelV v u) (hn:x≠"__name__":=by decide) (hd:(x==("__debug__":Str))=false:=by decide):PE X (.Name x pos) (tC v):=
 fun _ _ _ H _ I h=>zw I hg hm hv ⟨v,H,I,r,h⟩ hn hd
variable {a b:Expr} {ta tb:TE} {pos:Pos}
noncomputable def tB (t:TE):TT:=fun σ H Q=>t σ H fun x H1=>∃ c,x=.bl c/\Q c H1
theorem qX {t:TE} (h:PE X e t) (he:∀ whole,isTrue e X.env whole=(do let v <- whole;standAt e.pos;holding [v] (truthy v)):=by intro _;rfl):PT X e (tB t):=by
 intro pins s σ H Q I hw;refine isTrue_plain (thn (h pins s σ H _ I hw) fun v s1 ⟨x,H1,I1,r1,q1⟩=>?_) (he _);obtain ⟨d,rfl,q⟩:=q1;cases r1;exact Y1 ⟨H1,I1,q⟩
variable {tA tB':TT} {qdf:List Expr}
noncomputable def qfL (t u:TT):TT:=fun σ H Q=>t σ H fun c H1=>if c=true then u σ H1 Q else Q false H1
noncomputable def tOr (t u:TT):TT:=fun σ H Q=>t σ H fun c H1=>if c=true then Q true H1 else u σ H1 Q
noncomputable def qfM (t:TT):TT:=fun σ H Q=>t σ H fun c H1=>Q (!c) H1
theorem qaP (ha:PT X a tA):PW X (.BoolOp .And [a] pos) tA:=by
 intro wh pins s σ H Q I h;refine isTrue_and (thn (ha pins s σ H Q I h) fun c s1 e=>?_)
 cases c with
 | true=>exact isTrue_and_nil e
 | false=>exact e
theorem qab (ha:PT X a tA):PW X (.BoolOp .Or [a] pos) tA:=by
 intro wh pins s σ H Q I h;refine isTrue_or (thn (ha pins s σ H Q I h) fun c s1 e=>?_)
 cases c with
 | false=>exact isTrue_or_nil e
 | true=>exact e
theorem qbd (ha:PT X a tA) (hb:PW X (.BoolOp .And (b::qdf) pos) tB'):PW X (.BoolOp .And (a::b::qdf) pos) (qfL tA tB'):=by
 intro wh pins s σ H Q I h;refine isTrue_and (thn (ha pins s σ H _ I h) fun c s1 ⟨H1,I1,q1⟩=>?_)
 cases c with
 | true=>exact hb wh pins s1 σ H1 Q I1 q1
 | false=>exact ⟨H1,I1,q1⟩
theorem qaA (ha:PT X a tA) (hb:PW X (.BoolOp .Or (b::qdf) pos) tB'):PW X (.BoolOp .Or (a::b::qdf) pos) (tOr tA tB'):=by
 intro wh pins s σ H Q I h;refine isTrue_or (thn (ha pins s σ H _ I h) fun c s1 ⟨H1,I1,q1⟩=>?_)
 cases c with
 | true=>exact ⟨H1,I1,q1⟩
 | false=>exact hb wh pins s1 σ H1 Q I1 q1
theorem jd (ha:PT X a tA):PT X (.UnaryOp .Not a pos) (qfM tA):=by
 intro pins s σ H Q I h;exact isTrue_not (ha pins s σ H (fun c H1=>Q (!c) H1) I h)
noncomputable def qeZ (ta tb:TE):TE:=fun σ H Q=>ta σ H fun x H1=>∃ c,x=.bl c/\if c=true then tb σ H1 Q else Q (.bl false) H1
noncomputable def tOrV (ta tb:TE):TE:=fun σ H Q=>ta σ H fun x H1=>∃ c,x=.bl c/\if c=true then Q (.bl true) H1 else tb σ H1 Q
noncomputable def qe0 (ta:TE):TE:=fun σ H Q=>ta σ H fun x H1=>∃ c,x=.bl c/\Q (.bl (!c)) H1
theorem qbJ {op} {t:TE} (h:PE X a t):PE X (.BoolOp op [a] pos) t:=fun pins s σ H Q I hw=>BoolOp_one (h pins s σ H Q I hw)
theorem qbK (ha:PE X a ta) (hb:PE X (.BoolOp .And (b::qdf) pos) tb):PE X (.BoolOp .And (a::b::qdf) pos) (qeZ ta tb):=by
 intro pins s σ H Q I h;refine BoolOp_and (thn (ha pins s σ H _ I h) fun v s1 ⟨x,H1,I1,r1,q1⟩=>?_);obtain ⟨c,rfl,q1⟩:=q1;cases r1;refine Y1 ?_
 cases c with
 | true=>exact hb pins s1 σ H1 Q I1 q1
 | false=>exact ⟨.bl false,H1,I1,rfl,q1⟩
theorem pe_not (ha:PE X a ta):PE X (.UnaryOp .Not a pos) (qe0 ta):=by
 intro pins s σ H Q I h;refine UnaryOp_ (thn (ha pins s σ H _ I h) fun v s1 ⟨x,H1,I1,r1,q1⟩=>?_);obtain ⟨c,rfl,q1⟩:=q1;cases r1;exact not_of (Y1 ⟨.bl (!c),H1,I1,rfl,q1⟩)
noncomputable def tIf (t:TT) (ta tb:TE):TE:=fun σ H Q=>t σ H fun c H1=>if c=true then ta σ H1 Q else tb σ H1 Q
theorem qcK (hc:PT X c tA) (ha:PE X a ta) (hb:PE X b tb):PE X (.IfExp c a b pos) (tIf tA ta tb):=by
 intro pins s σ H Q I h;refine wpAny_IfExp (thn (hc pins s σ H _ I h) fun d s1 ⟨H1,I1,q1⟩=>?_)
 cases d with
 | true=>exact ha pins s1 σ H1 Q I1 q1
 | false=>exact hb pins s1 σ H1 Q I1 q1
end
noncomputable def SqL (K:yg) (H:Hp) (a:Addr) (xs:List V):Prop:=
 Rd H a (.lst xs) \/
  ∃ (o:Obj) (its:Array Value) (n:Nat),K.lookup a=some o/\o.cls=.type "list"/\o.dict=none/\o.data=.seq its n/\its.size<=sizeLine/\Vals xs its.toList
noncomputable def SqT (K:yg) (H:Hp) (a:Addr) (xs:List V):Prop:=
 Rd H a (.tup xs) \/
  ∃ (o:Obj) (its:Array Value) (n:Nat),K.lookup a=some o/\o.cls=.type "tuple"/\o.data=.seq its n/\its.size<=sizeLine/\Vals xs its.toList
noncomputable def absV:Value->Option V
 | .none=>some .non
 | .bool b=>some (.bl b)
 | .int i _=>some (.int i)
 | .str x _=>some (.str x)
 | .bytes b _=>some (.byt b)
 | .float b _=>some (.flt b)
 | .ref a=>some (.ref a)
 | .type n=>some (.ty n)
 | _=>none
theorem RelV.abs {x:V} (r:RelV x u):absV u=some x:=by
 cases x with
 | non=>cases r;rfl
 | bl _=>cases r;rfl
 | int _=>obtain ⟨t,rfl⟩:=r;rfl
 | str _=>obtain ⟨t,rfl⟩:=r;rfl
 | byt _=>obtain ⟨t,rfl⟩:=r;rfl
 | flt _=>obtain ⟨t,rfl⟩:=r;rfl
 | ref _=>cases r;rfl
 | ty _=>cases r;rfl
theorem RelV.inj {x:V} (r:RelV x u) (q:RelV y u):x=y:=ym (r.abs.symm.trans q.abs)
theorem Vals.inj:∀ {xs ys:List V} {us:List Value},Vals xs us->Vals ys us->xs=ys
 | _,_,_,.nil,.nil=>rfl
 | _,_,_,.cons r t,.cons r' t'=>by rw [r.inj r',Vals.inj t t']
section
variable {X:Cx} {pins:List (Addr×Obj)} {σ:St} {H:Hp} {s:Shared} {a:Addr} {xs ys:List V}
theorem SqL.of {K:yg} (h:H a=some (.lst xs)):SqL K H a xs:=.inl (.inl h)
theorem SqT.of {K:yg} (h:H a=some (.tup xs)):SqT K H a xs:=.inl (.inl h)
theorem Inv.list (I:Inv X pins σ H s) (h:SqL X.K H a xs):∃ its:List Value,Vals xs its/\PlainL s.heap a its.toArray/\xs.length<=sizeLine:=by
 rcases h with h | ⟨o,its,n,hk,hc,hd,hs,hz,r⟩
 ·obtain ⟨z,its,n,r,e⟩:=h.ok I.hok;exact ⟨its,r,⟨_,n,e,rfl,rfl,rfl⟩,z⟩
 ·refine ⟨its.toList,r,⟨o,n,I.kIn a o hk,hc,hd,by simpa using hs⟩,?_⟩;have e:=r.length;simp only [Y4] at e;omega
theorem Inv.tuple (I:Inv X pins σ H s) (h:SqT X.K H a xs):∃ its:List Value,Vals xs its/\IsTup s.heap a its.toArray/\xs.length<=sizeLine:=by
 rcases h with h | ⟨o,its,n,hk,hc,hs,hz,r⟩
 ·obtain ⟨z,its,r,p⟩:=h.ok I.hok;exact ⟨its,r,p,z⟩
 ·refine ⟨its.toList,r,⟨o,I.kIn a o hk,hc,n,by simpa using hs⟩,?_⟩;have e:=r.length;simp only [Y4] at e;omega
theorem Inv.list_inj (I:Inv X pins σ H s) (h:SqL X.K H a xs) (h':SqL X.K H a ys):xs=ys:=by
 obtain ⟨its,r,⟨o,n,e,_,_,d⟩,_⟩:=I.list h;obtain ⟨its',r',⟨o',n',e',_,_,d'⟩,_⟩:=I.list h';rw [e] at e';cases e';rw [d] at d'
 injection d' with d1 _
 have:its=its':=by simpa using congrArg Array.toList d1
 subst this;exact r.inj r'
theorem Inv.tuple_inj (I:Inv X pins σ H s) (h:SqT X.K H a xs) (h':SqT X.K H a ys):xs=ys:=by
 obtain ⟨its,r,⟨o,e,_,n,d⟩,_⟩:=I.tuple h;obtain ⟨its',r',⟨o',e',_,n',d'⟩,_⟩:=I.tuple h';rw [e] at e';cases e';rw [d] at d'
 injection d' with d1 _
 have:its=its':=by simpa using congrArg Array.toList d1
 subst this;exact r.inj r'
end
noncomputable abbrev Cx.wish (X:Cx) (E:Value->Shared->Prop):Cx:={ X with xe:=E }
noncomputable abbrev Cx.nox (X:Cx):Cx:=X.wish fun _ _=>False
theorem Cx.Ok.wish (ok:X.Ok) (E:Value->Shared->Prop):(X.wish E).Ok:=
 ⟨ok.mod,ok.kind,ok.glob,ok.blt,ok.above,ok.inj,ok.has,ok.cab,ok.hd,ok.frames,ok.stk,ok.exf,ok.bs,ok.bsz,ok.noex,ok.exfs,ok.funs,ok.frf⟩
theorem Cx.Ok.unwish (ok:(X.wish E).Ok):X.Ok:=
 ⟨ok.mod,ok.kind,ok.glob,ok.blt,ok.above,ok.inj,ok.has,ok.cab,ok.hd,ok.frames,ok.stk,ok.exf,ok.bs,ok.bsz,ok.noex,ok.exfs,ok.funs,ok.frf⟩
section
variable {X:Cx} {pins:List (Addr×Obj)} {σ:St} {H:Hp} {s:Shared} {E:Value->Shared->Prop}
theorem Inv.wish (I:Inv X pins σ H s) (E:Value->Shared->Prop):Inv (X.wish E) pins σ H s:=⟨I.ok.wish E,I.os,I.bare,I.base,I.loc,I.cell,I.free,I.freeC,I.pin,I.hok,I.len⟩
theorem Inv.unwish (I:Inv (X.wish E) pins σ H s):Inv X pins σ H s:=⟨I.ok.unwish,I.os,I.bare,I.base,I.loc,I.cell,I.free,I.freeC,I.pin,I.hok,I.len⟩
theorem SP.unwish {f:Flow} (h:SP (X.wish E) pins D f s'):SP X pins D f s':=by
 cases f with
 | next=>obtain ⟨σ',H',I,q⟩:=h;exact ⟨σ',H',I.unwish,q⟩
 | brk=>obtain ⟨σ',H',I,q⟩:=h;exact ⟨σ',H',I.unwish,q⟩
 | cont=>obtain ⟨σ',H',I,q⟩:=h;exact ⟨σ',H',I.unwish,q⟩
 | ret u=>obtain ⟨v,σ',H',I,r,q⟩:=h;exact ⟨v,σ',H',I.unwish,r,q⟩
theorem PSs.nox {st:List Stmt} {t:TS} (h:PSs X.nox st t):PSs X st t:=fun pins s σ H D I hw =>
 YQ (h pins s σ H D (I.wish _) hw) (fun _ _ q=>q.unwish) fun _ _ z=>False.elim z
end
section
variable {X:Cx} {st:Stmt} {qdf:List Stmt} {t u:TS} {e:Expr} {te:TE} {pos:Pos}
noncomputable def qe1:TS:=fun D σ H=>D.nx σ H
noncomputable def qfA (t u:TS):TS:=fun D σ H=>t { D with nx:=u D } σ H
theorem qv:PSs X [] qe1:=fun _ _ σ H _ I h=>XB ⟨σ,H,I,h⟩
theorem qc (h1:PS X st t) (h2:PSs X qdf u):PSs X (st::qdf) (qfA t u):=by
 intro pins s σ H D I h;refine wpAny_execs_cons (thn (h1 pins s σ H { D with nx:=u D } I h) fun f s1 q=>?_)
 cases f with
 | next =>
  obtain ⟨σ',H',I',q⟩:=q;exact h2 pins s1 σ' H' D I' q
 | ret v=>exact q
 | brk=>exact q
 | cont=>exact q
theorem qf (h1:PS X st t):PSs X [st] t:=by
 intro pins s σ H D I h;refine wpAny_execs_cons (thn (h1 pins s σ H D I h) fun f s1 q=>?_)
 cases f with
 | next=>exact XB q
 | ret v=>exact q
 | brk=>exact q
 | cont=>exact q
theorem Inv.quiet (I:Inv X pins σ H s):interactive X.env=false:=by simp [interactive,I.ok.kind]
noncomputable def qe2 (te:TE):TS:=fun D σ H=>te σ H fun _ H1=>D.nx σ H1
theorem qM (he:PE X e te) (hs:swapsWith e none pos.line X.env=pure false:=by rfl):PS X (.Expr e pos) (qe2 te):=by
 intro pins s σ H D I h;exact wpAny_Expr_any (thn (he pins s σ H _ I h) fun v s1 ⟨x,H1,I1,r1,q1⟩=>⟨σ,H1,I1,q1⟩) I.quiet hs
noncomputable def qfN (te:TE):TS:=fun D σ H=>te σ H D.rt
theorem qm (he:PE X e te):PS X (.Return (some e) pos) (qfN te):=by
 intro pins s σ H D I h;exact wpAny_Return_some (thn (he pins s σ H _ I h) fun v s1 ⟨x,H1,I1,r1,q1⟩=>⟨x,σ,H1,I1,r1,q1⟩)
noncomputable def qe3:TS:=fun D _ H=>D.rt .non H
theorem ps_retN:PS X (.Return none pos) qe3:=fun _ _ σ H _ I h=>wpAny_Return_none ⟨.non,σ,H,I,rfl,h⟩
noncomputable def qfO (c:TT) (t u:TS):TS:=fun D σ H=>c σ H fun b H1=>if b=true then t D σ H1 else u D σ H1
theorem qP {a b:List Stmt} (hc:PT X c tc) (ha:PSs X a t) (hb:PSs X b u):PS X (.If c a b pos) (qfO tc t u):=by
 intro pins s σ H D I h;refine wpAny_If (thn (hc pins s σ H _ I h) fun d s1 ⟨H1,I1,q1⟩=>?_)
 cases d with
 | true=>exact ha pins s1 σ H1 D I1 q1
 | false=>exact hb pins s1 σ H1 D I1 q1
noncomputable def tNever:TS:=fun _ _ _=>False
theorem jv:PS X st tNever:=fun _ _ _ _ _ _ h=>h.elim
end
noncomputable abbrev TG:=V->St->Hp->(St->Hp->Prop)->Prop
noncomputable abbrev TGs:=List V->St->Hp->(St->Hp->Prop)->Prop
noncomputable def PG (X:Cx) (target:Expr) (t:TG):Prop:=
 ∀ (pins:List (Addr×Obj)) (s:Shared) (σ:St) (H:Hp) (v:V) (u:Value) (Q:St->Hp->Prop),Inv X pins σ H s->RelV v u->t v σ H Q ->
  wpAny (model X.prog X.w) X.A (assign target X.env u) (fun _ s'=>∃ σ' H',Inv X pins σ' H' s'/\Q σ' H') X.xe s
noncomputable def PGs (X:Cx) (ts:List Expr) (t:TGs):Prop:=
 ∀ (pins:List (Addr×Obj)) (s:Shared) (σ:St) (H:Hp) (vs:List V) (us:List Value) (Q:St->Hp->Prop),Inv X pins σ H s->Vals vs us->t vs σ H Q ->
  wpAny (model X.prog X.w) X.A (assignInOrder ((assignEach ts X.env).map (·.2)) us) (fun _ s'=>∃ σ' H',Inv X pins σ' H' s'/\Q σ' H') X.xe s
noncomputable abbrev qe4:=V->V->V->Hp->(Hp->Prop)->Prop
noncomputable def qfB (X:Cx) (t:qe4):Prop:=
 ∀ (pins:List (Addr×Obj)) (s:Shared) (σ:St) (H:Hp) (o i v:V) (ov iv u:Value) (Q:Hp->Prop),Inv X pins σ H s->RelV o ov->RelV i iv->RelV v u->t o i v H Q ->
  wpAny (model X.prog X.w) X.A (setItem ov iv u) (fun _ s'=>∃ H',Inv X pins σ H' s'/\Q H') X.xe s
section
variable {X:Cx} {pos:Pos}
noncomputable def qbp (i:Nat):TG:=fun v σ H Q=>Q (σ.set i (some v)) H
theorem qr (hN:X.N.Nodup) (hi:X.N[i]?=some x) (hx:Loc X.env.scope x) (hf:X.fn x=true\/X.env.scope.names.lookup x=some .local:=by first | exact .inl rfl | exact .inr rfl | assumption):PG X (.Name x pos) (qbp i):=by
 intro pins s σ H v u Q I r h;exact wpAny_assign_Name (qcJ I hN hi hx r (fun s' I'=>⟨_,H,I',h⟩) hf)
noncomputable def qfP:TGs:=fun vs σ H Q=>vs=[]/\Q σ H
noncomputable def qeE (t:TG) (u:TGs):TGs:=fun vs σ H Q=>∃ v r,vs=v::r/\t v σ H fun σ' H'=>u r σ' H' Q
theorem qcl:PGs X [] qfP:=by
 intro pins s σ H vs us Q I r h;obtain ⟨e,h⟩:=h;subst e;cases r;exact assignInOrder_nil ⟨σ,H,I,h⟩
theorem zD {t:TG} {u:TGs} (h1:PG X e t) (h2:PGs X es u)
  (hs:(assignEach (e::es) X.env).map (·.2)=assign e X.env::(assignEach es X.env).map (·.2):=by rfl):PGs X (e::es) (qeE t u):=by
 intro pins s σ H vs us Q I r h;obtain ⟨v,vr,e1,h⟩:=h;subst e1
 cases r with
 | cons r rr =>
  rw [hs];refine assignInOrder_cons (thn (h1 pins s σ H _ _ _ I r h) fun _ s1 ⟨σ1,H1,I1,q1⟩=>?_);exact h2 pins s1 σ1 H1 _ _ Q I1 rr q1
noncomputable def qfQ (K:yg) (n:Nat) (t:TGs):TG:=fun v σ H Q=>∃ a xs,v=.ref a/\SqT K H a xs/\xs.length=n/\t xs σ H Q
theorem qdg {k:Nat} {t:TGs} (hc:X.calm=true) (h:PGs X es t)
  (hn:(assignEach es X.env).length=n:=by rfl) (hst:(assignEach es X.env).findIdx? (·.1)=none:=by rfl):PG X (.Tuple es k pos) (qfQ X.K n t):=by
 intro pins s σ H v u Q I r hw;obtain ⟨a,xs,e1,hq,hl,hw⟩:=hw;subst e1;cases r;obtain ⟨its,rv,ht,hz⟩:=I.tuple hq;refine assign_Tuple_tuple (I.ok.hd hc) ht (by simp [hn,<- hl,rv.length]) hst fun h' hx=>?_;have I1:Inv X pins σ H { s with heap:=h' }:=I.kept (t':=s.toks) fun b o e=>hx b o (yF (yH e)) e;exact h pins _ σ H xs _ Q I1 (by simpa using rv) hw
noncomputable def qfR (to ti:TE) (t:qe4):TG:=fun v σ H Q=>to σ H fun o H1=>ti σ H1 fun i H2=>t o i v H2 fun H3=>Q σ H3
theorem jL {o i:Expr} {to ti:TE} {t:qe4} (ho:PE X o to) (hi:PE X i ti) (hs:qfB X t)
  (ha:∀ v,assign (.Subscript o i pos) X.env v=(do
   let ov <- holding [v] (eval o X.env);let iv <- holding [v,ov] (eval i X.env)
   standAt pos
   holding [v,ov,iv] (setItem ov iv v)
   release [v,ov,iv] []):=by intro _;rfl):PG X (.Subscript o i pos) (qfR to ti t):=by
 intro pins s σ H v u Q I r h;rw [ha];refine yr (Yg (thn (ho pins s σ H _ I h) fun ov s1 ⟨x,H1,I1,r1,q1⟩=>?_));refine yr (Yg (thn (hi pins s1 σ H1 _ I1 q1) fun iv s2 ⟨y,H2,I2,r2,q2⟩=>?_));refine yr (ki (yr (Yg (thn (hs pins s2 σ H2 x y v ov iv u _ I2 r1 r2 r q2) fun _ s3 ⟨H3,I3,q3⟩=>?_))));exact wpAny_release ⟨σ,H3,I3,q3⟩
noncomputable def qeV (te:TE) (g:TG):TS:=fun D σ H=>te σ H fun x H1=>g x σ H1 D.nx
theorem jG (he:PE X e te) (hg:PG X tg g) (hs:swapsWithSole [tg] e pos.line X.env=pure false:=by rfl) (hw:swappedStores [tg] e X.env=pure none:=by rfl)
  (h1:(assignEach [tg] X.env).map (·.2)=[assign tg X.env]:=by rfl):PS X (.Assign [tg] e pos) (qeV te g):=by
 intro pins s σ H D I h;refine wpAny_Assign_stores (thn (he pins s σ H _ I h) fun v s1 ⟨x,H1,I1,r1,q1⟩=>?_) hs hw;rw [h1];exact thn (hg pins s1 σ H1 x v _ I1 r1 q1) fun _ s2 q=>q
theorem qo {pos':Pos} (hN:X.N.Nodup) (hi:X.N[i]?=some x) (hx:Loc X.env.scope x) (he:PE X e te) (hs:swapsWith e (some (.Name x pos')) pos.line X.env=pure false:=by rfl) (hf:X.fn x=true\/X.env.scope.names.lookup x=some .local:=by first | exact .inl rfl | exact .inr rfl | assumption) :
  PS X (.Assign [.Name x pos'] e pos) (qeV te (qbp i)):=by
 intro pins s σ H D I h;refine wpAny_Assign_Name (thn (he pins s σ H _ I h) fun v s1 ⟨y,H1,I1,r1,q1⟩=>?_) hs;exact qcJ I1 hN hi hx r1 (fun s2 I2=>⟨_,H1,I2,q1⟩) hf
end
section
variable {X:Cx} {pos:Pos}
noncomputable def tWhile (c:TT) (tb:TS):TS:=fun D σ H=>∃ W:Nat->St->Hp->Prop,(∃ m,W m σ H)/\∀ m σ H,W m σ H ->
 c σ H fun b H1=>if b=true then ∃ N:St->Hp->Prop,(∀ σ' H',N σ' H'->∃ m',m' < m/\W m' σ' H')/\tb { D with nx:=N,ct:=N,bk:=D.nx } σ H1 else D.nx σ H1
theorem qbq (hp:PassesOwn (model X.prog X.w) X.A X.env X.xe) (hc:PT X c tc) (hb:PSs X body tb):PS X (.While c body [] pos) (tWhile tc tb):=by
 intro pins s σ H D I h;obtain ⟨W,⟨m0,w0⟩,turn⟩:=h;refine wpAny_While (codeAny_whileLoop (fun n s'=>∃ σ' H',Inv X pins σ' H' s'/\W n σ' H') ?_ m0 ⟨σ,H,I,w0⟩);rintro n s1 ⟨σ1,H1,I1,w1⟩;refine xl hp (thn (hc pins s1 σ1 H1 _ I1 (turn n σ1 H1 w1)) fun b s2 ⟨H2,I2,q2⟩=>?_)
 cases b with
 | true =>
  obtain ⟨N,hN,q2⟩:=q2;rw [yE rfl];refine xl hp (thn (hb pins s2 σ1 H2 _ I2 q2) fun f s3 q3=>?_)
  cases f with
  | next =>
   obtain ⟨σ3,H3,I3,n3⟩:=q3;obtain ⟨m',hm,w3⟩:=hN σ3 H3 n3;exact ⟨m',hm,σ3,H3,I3,w3⟩
  | cont =>
   obtain ⟨σ3,H3,I3,n3⟩:=q3;obtain ⟨m',hm,w3⟩:=hN σ3 H3 n3;exact ⟨m',hm,σ3,H3,I3,w3⟩
  | brk=>exact q3
  | ret v=>exact q3
 | false =>
  rw [yy Yj];exact XB ⟨σ1,H2,I2,q2⟩
end
structure It where
 go:Nat->Hp->Prop
 yld:Nat->Hp->V->Hp->Prop
 stop:Nat->Hp->Prop
noncomputable def qcm (X:Cx) (pins:List (Addr×Obj)) (H:Hp) (b:Addr):Prop:=
 H b=none/\b≠X.env.locals/\b∉X.fs/\(b∈X.ex\/X.s₀.heap.objs.size<=b)/\(∀ x c,X.env.cells.lookup x=some c->c≠b)/\∀ p∈X.pn++pins,p.1≠b
theorem Inv.fpOk {H':Hp} (I:Inv X pins σ H s) (hb:s.heap.objs.size<=b) (hn:H' b=none):qcm X pins H' b:=by
 refine ⟨hn,Yh (yj I.lt hb),I.nofs hb,.inr (yi I.sz hb),fun x c e z=>?_,fun p hp z=>?_⟩
 ·obtain ⟨v,q⟩:=I.cell x c e;exact absurd (yj q.lt (by rw [z];exact hb)) (Yt _)
 ·exact absurd (yj (yH (I.pin p hp).1) (by rw [z];exact hb)) (Yt _)
structure Turn (P:Program) (w:World) (K:yg) (tg:Expr) (J:It) (fp:List Addr) (it:Addr) (tn:Nat->Heap->Prop):Prop where
 mem:it∈fp
 obj:∀ i h,tn i h->∀ b∈fp,∃ o,h.get? b=some o/\∀ v,o.data≠.cell v
 keep:∀ i h h',tn i h->(∀ b∈fp,∀ o,h.get? b=some o->h'.get? b=some o)->tn i h'
 item:∀ (X:Cx),X.prog=P->X.w=w->X.K=K->X.calm=true->∀ (i:Nat) (pins:List (Addr×Obj)) (s:Shared) (σ:St) (H:Hp) (E:Value->Shared->Prop),Inv X pins σ H s->(∀ b∈fp,qcm X pins H b)->tn i s.heap->J.go i H ->
  wpAny (model P w) X.A (pyNext (.ref it)) (fun r s1=>∃ u,r=some u /\
   wpAny (model P w) X.A (letOwnedTupleGo tg (.ref it) u) (fun _ s2=>∃ x H',Inv X pins σ H' s2/\RelV x u/\J.yld i H x H'/\tn (i + 1) s2.heap/\∀ b∈fp,H' b=none) E s1) E s
 done:∀ (X:Cx),X.prog=P->X.w=w->X.K=K->X.calm=true->∀ (i:Nat) (pins:List (Addr×Obj)) (s:Shared) (σ:St) (H:Hp) (E:Value->Shared->Prop),Inv X pins σ H s->(∀ b∈fp,qcm X pins H b)->tn i s.heap->J.stop i H ->
  wpAny (model P w) X.A (pyNext (.ref it)) (fun r s1=>r=none/\Inv X pins σ H s1) E s
 self:∀ (A:Around) (i:Nat) (s:Shared) (Q:Value->Shared->Prop) (E:Value->Shared->Prop),tn i s.heap->Q (.ref it) s->wpAny (model P w) A (pyIter (.ref it)) Q E s
noncomputable abbrev TI:=St->Hp->(It->Hp->Prop)->Prop
noncomputable def PIE (X:Cx) (pins:List (Addr×Obj)) (σ:St) (tg:Expr) (R:It->Hp->Prop) (itv:Value) (s2:Shared):Prop:=
 ∃ (it:Addr) (fp:List Addr) (tn:Nat->Heap->Prop) (J:It) (H':Hp),itv=.ref it/\Inv X pins σ H' s2/\Turn X.prog X.w X.K tg J fp it tn/\tn 0 s2.heap/\(∀ b∈fp,qcm X pins H' b)/\R J H'
noncomputable def PI (X:Cx) (tg iter:Expr) (wi:TI):Prop:=
 ∀ (pins:List (Addr×Obj)) (s:Shared) (σ:St) (H:Hp) (R:It->Hp->Prop),Inv X pins σ H s->wi σ H R ->
  wpAny (model X.prog X.w) X.A (eval iter X.env) (fun v s1=>wpAny (model X.prog X.w) X.A (pyIter v) (PIE X pins σ tg R) X.xe s1) X.xe s
theorem qd6 {o:Obj} {n:String} {vs:Array Value} {Q:Unit->Shared->Prop} (ho:s.heap.get? it=some o) (hc:o.cls=.type n) (hd:o.data=.fields vs)
    (hn:["enumerate","zip","dict_itemiterator","dict_reverseitemiterator","odict_iterator","itertools.zip_longest","itertools.pairwise"].contains n=false) (hQ:Q () s):wpAny M A (letOwnedTupleGo tg (.ref it) u) Q E s:=by
  unfold letOwnedTupleGo;cases tg<;>first
    | exact yu hQ
    | (cases u<;>first
        | exact yu hQ
        | (refine yr (wpAny_load ho ?_)
           rw [hc,hd];show wpAny M A (if (["enumerate","zip","dict_itemiterator","dict_reverseitemiterator","odict_iterator","itertools.zip_longest","itertools.pairwise"].contains n&&vs[0]?==some (rawInt _))=true then _ else _) Q E s;rw [yy (by intro h;rw [hn,Bool.false_and] at h;cases h)];exact yu hQ))
noncomputable def Itl (K:yg) (a:Addr):It:=
 ⟨fun i H=>∃ xs x,SqL K H a xs/\xs[i]?=some x,fun i H x H'=>H'=H/\∀ xs,SqL K H a xs->xs[i]?=some x,fun i H=>∃ xs,SqL K H a xs/\xs.length<=i⟩
noncomputable def Itt (K:yg) (a:Addr):It:=
 ⟨fun i H=>∃ xs x,SqT K H a xs/\xs[i]?=some x,fun i H x H'=>H'=H/\∀ xs,SqT K H a xs->xs[i]?=some x,fun i H=>∃ xs,SqT K H a xs/\xs.length<=i⟩
noncomputable def Itr (lo:Int) (n:Nat):It:=⟨fun i _=>i < n,fun i H x H'=>H'=H/\x=.int (lo + i),fun i _=>n<=i⟩
theorem qbL {K:yg} (a it:Addr):Turn P w K tg (Itl K a) [it] it (fun i h=>h.IsListIter it a i) where
 mem:=by simp
 obj:=fun i h st b hb=>by
  have e:b=it:=by simpa using hb
  subst e;obtain ⟨o,e,c,d⟩:=st;exact ⟨o,e,fun v z=>by rw [d] at z;cases z⟩
 keep:=fun i h h' st k=>st.at fun o e=>k it (by simp) o e
 item:=by
  intro X hP hw hK hc i pins s σ H E I hf st hg;subst hP hw hK;obtain ⟨xs,x,hq,hx⟩:=hg;obtain ⟨its,rv,p,hz⟩:=I.list hq;obtain ⟨u,hu,ru⟩:=rv.get hx;obtain ⟨f0,f1,f2,f3,f4,f5⟩:=hf it (by simp);refine wpAny_pyNext_list_item st p.isList (x:=u) (by simpa using hu) fun h' st' sb=>?_;have I1:Inv X pins σ H { s with heap:=h' }:=I.turned (t':=s.toks) (fun b o hb e=>(sb.2 b hb).trans e) f0 f1 f3 f4 f5;obtain ⟨o,e,c,d⟩:=id st';exact ⟨u,rfl,qd6 (s:={ s with heap:=h' }) e c d (by decide) ⟨x,H,I1,ru,⟨rfl,fun ys hy=>by rw [I.list_inj hy hq];exact hx⟩,st',fun b hb=>(hf b hb).1⟩⟩
 done:=by
  intro X hP hw hK hc i pins s σ H E I hf st hg;subst hP hw hK;obtain ⟨xs,hq,hx⟩:=hg;obtain ⟨its,rv,p,hz⟩:=I.list hq;obtain ⟨f0,f1,f2,f3,f4,f5⟩:=hf it (by simp);have hl:=rv.length;exact wpAny_pyNext_list_end (I.ok.hd hc) st p.isList (by simp;omega) fun h' eb=>⟨rfl,I.turned (t':=s.toks) (fun b o hb e=>eb b o hb e) f0 f1 f3 f4 f5⟩
 self:=fun _ _ _ _ _ st h=>wpAny_pyIter_listiter st h
theorem turn_tuple {K:yg} (a it:Addr):Turn P w K tg (Itt K a) [it] it (fun i h=>h.IsTupleIter it a i) where
 mem:=by simp
 obj:=fun i h st b hb=>by
  have e:b=it:=by simpa using hb
  subst e;obtain ⟨o,e,c,d⟩:=st;exact ⟨o,e,fun v z=>by rw [d] at z;cases z⟩
 keep:=fun i h h' st k=>st.at fun o e=>k it (by simp) o e
 item:=by
  intro X hP hw hK hc i pins s σ H E I hf st hg;subst hP hw hK;obtain ⟨xs,x,hq,hx⟩:=hg;obtain ⟨its,rv,p,hz⟩:=I.tuple hq;obtain ⟨u,hu,ru⟩:=rv.get hx;obtain ⟨f0,f1,f2,f3,f4,f5⟩:=hf it (by simp);refine wpAny_pyNext_tuple_item st (show s.heap.IsTuple a its.toArray from p) (x:=u) (by simpa using hu) fun h' st' sb=>?_;have I1:Inv X pins σ H { s with heap:=h' }:=I.turned (t':=s.toks) (fun b o hb e=>(sb.2 b hb).trans e) f0 f1 f3 f4 f5;obtain ⟨o,e,c,d⟩:=id st';exact ⟨u,rfl,qd6 (s:={ s with heap:=h' }) e c d (by decide) ⟨x,H,I1,ru,⟨rfl,fun ys hy=>by rw [I.tuple_inj hy hq];exact hx⟩,st',fun b hb=>(hf b hb).1⟩⟩
 done:=by
  intro X hP hw hK hc i pins s σ H E I hf st hg;subst hP hw hK;obtain ⟨xs,hq,hx⟩:=hg;obtain ⟨its,rv,p,hz⟩:=I.tuple hq;obtain ⟨f0,f1,f2,f3,f4,f5⟩:=hf it (by simp);have hl:=rv.length;exact wpAny_pyNext_tuple_end (I.ok.hd hc) st (show s.heap.IsTuple a its.toArray from p) (by simp;omega) fun h' eb=>⟨rfl,I.turned (t':=s.toks) (fun b o hb e=>eb b o hb e) f0 f1 f3 f4 f5⟩
 self:=fun _ _ _ _ _ st h=>wpAny_pyIter_tupleiter st h
theorem turn_range {K:yg} (it:Addr) (lo:Int) (n:Nat):Turn P w K tg (Itr lo n) [it] it (fun i h=>IsRangeIter h it (lo + (i:Nat) * 1) ((n:Int) - (i:Nat)) 1) where
 mem:=by simp
 obj:=fun i h st b hb=>by
  have e:b=it:=by simpa using hb
  subst e
  exact ⟨_,st,fun v z=>by
   have z':Data.fields _=Data.cell v:=z;cases z'⟩
 keep:=fun i h h' st k=>k it (by simp) _ st
 item:=by
  intro X hP hw hK hc i pins s σ H E I hf st hg;subst hP hw hK;obtain ⟨f0,f1,f2,f3,f4,f5⟩:=hf it (by simp);have W:=Walks.range (prog:=X.prog) (w:=X.w) (I.ok.hd hc) it lo 1 n;refine W.item i s _ _ hg st fun v h' tk hv st' kk=>?_;obtain ⟨t,rfl⟩:=hv;have I1:Inv X pins σ H { s with heap:=h',toks:=tk }:=I.turned (fun b o hb e=>kk b o (by simpa using hb) e) f0 f1 f3 f4 f5;refine ⟨_,rfl,qd6 (s:={ s with heap:=h',toks:=tk }) (n:="range_iterator") st' rfl rfl (by decide) ⟨.int (lo + i),H,I1,⟨t,?_⟩,⟨rfl,rfl⟩,st',fun b hb=>(hf b hb).1⟩⟩;rw [Int.mul_one]
 done:=by
  intro X hP hw hK hc i pins s σ H E I hf st hg;subst hP hw hK;obtain ⟨f0,f1,f2,f3,f4,f5⟩:=hf it (by simp);exact wpAny_pyNext_range_end (I.ok.hd hc) st (by have:n<=i:=hg;omega) fun h' eb=>⟨rfl,I.turned (t':=s.toks) (fun b o hb e=>eb b o hb e) f0 f1 f3 f4 f5⟩
 self:=fun _ _ _ _ _ st h=>wpAny_pyIter_rangeiter st h
section
variable {X:Cx} {tg:Expr}
theorem qcL {R:It->Hp->Prop} {hi:Int} {t u v:Tok} {tk:Nat} (I:Inv X pins σ H s) (h1:-(2 ^ 62)<=lo) (h2:lo < 2 ^ 62) (h3:-(2 ^ 62)<=hi) (h4:hi < 2 ^ 62)
  (q:R (Itr lo (hi - lo).toNat) H):wpAny (model X.prog X.w) X.A (pyIter (.ref s.heap.objs.size)) (PIE X pins σ tg R) E { s with heap:=s.heap.push { cls:=.type "range",data:=.fields #[.int lo t,.int hi u,.int 1 v] },toks:=tk }:=by
 refine wpAny_pyIter_range (IsRange.new ..) (small_one h1 h2 h3 h4) ?_;have I1:Inv X pins σ H { s with heap:=s.heap.push { cls:=.type "range",data:=.fields #[.int lo t,.int hi u,.int 1 v] },toks:=tk }:=I.kept fun b o e=>yv _ e;refine ⟨(s.heap.push { cls:=.type "range",data:=.fields #[.int lo t,.int hi u,.int 1 v] }).objs.size,[(s.heap.push { cls:=.type "range",data:=.fields #[.int lo t,.int hi u,.int 1 v] }).objs.size],_,_,H,rfl,
  I1.kept (t':=tk) fun b o e=>yv _ e,turn_range _ lo (hi - lo).toNat,?_,fun b hb=>?_,q⟩
 ·have e1:lo + ((0:Nat):Int) * 1=lo:=by simp
  have e2:(((hi - lo).toNat:Nat):Int) - ((0:Nat):Int)=Builtin.Range.rangeSize lo hi 1:=by rw [rangeSize_one];split<;>omega
  show IsRangeIter _ _ (lo + ((0:Nat):Int) * 1) ((((hi - lo).toNat:Nat):Int) - ((0:Nat):Int)) 1;rw [e1,e2];exact yO _ rfl
 ·have e:b=(s.heap.push { cls:=.type "range",data:=.fields #[.int lo t,.int hi u,.int 1 v] }).objs.size:=by simpa using hb
  subst e;exact I1.fpOk (yh _) (I1.hok.fresh (yh _))
noncomputable def qe5 (ta:TA):TI:=fun σ H R=>ta σ H fun vs H1=>∃ j:Int,vs=[.int j]/\-(2 ^ 62)<=j/\j < 2 ^ 62/\R (Itr 0 j.toNat) H1
noncomputable def qe6 (ta:TA):TI:=fun σ H R=>ta σ H fun vs H1=>∃ i j:Int,vs=[.int i,.int j]/\(-(2 ^ 62)<=i/\i < 2 ^ 62/\-(2 ^ 62)<=j/\j < 2 ^ 62)/\R (Itr i (j - i).toNat) H1
theorem qQ {a:Expr} (hg:Gl X "range") (hm:X.mg "range"=none) (ha:PA X [a] ta) (hs:starEach [a] X.env=[(false,eval a X.env)]:=by rfl):PI X tg (.Call (.Name "range" p) [a] [] pos) (qe5 ta):=by
 intro pins s σ H R I h;refine Call_ (zw I hg hm boot_range (Yi (thn (ha pos pins s σ H _ I h) fun us s1 ⟨vs,H1,I1,r1,q1⟩=>?_) hs rfl));obtain ⟨j,e,q1,q2,q⟩:=q1;subst e
 cases r1 with
 | cons r rr =>
  cases rr;obtain ⟨t,rfl⟩:=r;exact call_range_1 (qcL I1 (by omega) (by omega) q1 q2 (by simpa using q))
theorem qbM {a b:Expr} (hg:Gl X "range") (hm:X.mg "range"=none) (ha:PA X [a,b] ta) (hs:starEach [a,b] X.env=[(false,eval a X.env),(false,eval b X.env)]:=by rfl) (hs2:starEach [b] X.env=[(false,eval b X.env)]:=by rfl) :
  PI X tg (.Call (.Name "range" p) [a,b] [] pos) (qe6 ta):=by
 intro pins s σ H R I h;refine Call_ (zw I hg hm boot_range (Yi (thn (ha pos pins s σ H _ I h) fun us s1 ⟨vs,H1,I1,r1,q1⟩=>?_) (by rw [hs,hs2]) (by rw [hs2];rfl)));obtain ⟨i,j,e,⟨q1,q2,q3,q4⟩,q⟩:=q1;subst e
 cases r1 with
 | cons r rr =>
  cases rr with
  | cons r' rr =>
   cases rr;obtain ⟨t,rfl⟩:=r;obtain ⟨t',rfl⟩:=r';exact call_range_2 (qcL I1 q1 q2 q3 q4 q)
noncomputable def qfS (wi:TI) (g:TG) (tb:TS):TS:=fun D σ H=>wi σ H fun J H1=>∃ W:Nat->Nat->St->Hp->Prop,(∃ m,W 0 m σ H1)/\∀ i m σ H,W i m σ H ->
 (J.stop i H/\D.nx σ H)\/(J.go i H/\∃ N:St->Hp->Prop,(∀ σ' H',N σ' H'->∃ m',m' < m/\W (i + 1) m' σ' H')/\∀ x H',J.yld i H x H'->g x σ H' fun σ2 H2=>tb { D with nx:=N,ct:=N,bk:=D.nx } σ2 H2)
noncomputable def qbN (fp:List Addr) (h:Heap):List (Addr×Obj):=fp.filterMap fun b=>(h.get? b).map fun o=>(b,o)
theorem zE {o:Obj} (hb:b∈fp) (e:h.get? b=some o):(b,o)∈qbN fp h:=List.mem_filterMap.mpr ⟨b,hb,by rw [e];rfl⟩
theorem of_pinsAt {p:Addr×Obj} (hp:p∈qbN fp h):p.1∈fp/\h.get? p.1=some p.2:=by
 obtain ⟨b,hb,e⟩:=List.mem_filterMap.mp hp
 cases q:h.get? b with
 | none=>rw [q] at e;cases e
 | some o =>
  rw [q] at e;have e':(b,o)=p:=ym e;subst e';exact ⟨hb,q⟩
theorem Inv.pinned (I:Inv X pins σ H s) (hf:∀ b∈fp,qcm X pins H b) (ho:∀ b∈fp,∃ o,s.heap.get? b=some o/\∀ v,o.data≠.cell v):Inv X (pins++qbN fp s.heap) σ H s:=
 I.pins_of fun p hp=>(yz.mp hp).elim (fun z=>I.pin p (yK _ z)) fun z=>by
  obtain ⟨hb,e⟩:=of_pinsAt z;obtain ⟨f0,f1,f2,_⟩:=hf p.1 hb;obtain ⟨o,e',d⟩:=ho p.1 hb;rw [e] at e';cases e';exact ⟨e,f0,f1,f2,d⟩
theorem Inv.unpinned {pl:List (Addr×Obj)} (I:Inv X (pins++pl) σ H s):Inv X pins σ H s:=I.pins_of fun p hp=>I.pin p (yK _ (yM _ hp))
theorem q9 {iter:Expr} {wi:TI} (hp:PassesOwn (model X.prog X.w) X.A X.env X.xe) (hc:X.calm=true) (hi:PI X tg iter wi) (hg:PG X tg g) (hb:PSs X body tb)
  (hs:∀ x,foldedSetIterable iter X.env x=pure x:=by intro _;rfl):PS X (.For tg iter body [] pos) (qfS wi g tb):=by
 intro pins s σ H D I h;refine wpAny_For (thn (hi pins s σ H _ I h) fun v s1 h1=>thn h1 fun itv s2 h2=>?_) hs;obtain ⟨it,fp,tn,J,H2,e,I2,T,st2,f2,W,⟨m0,w0⟩,turn⟩:=h2;subst e;have stat:∀ {H':Hp},(∀ b∈fp,H' b=none)->∀ b∈fp,qcm X pins H' b:=fun hn b hb=>⟨hn b hb,(f2 b hb).2⟩;refine codeAny_forLoop_any (fun n s'=>∃ i σ' H',Inv X pins σ' H' s'/\tn i s'.heap/\(∀ b∈fp,H' b=none)/\W i n σ' H') ?_ m0 ⟨0,σ,H2,I2,st2,fun b hb=>(f2 b hb).1,w0⟩;rintro n s3 ⟨i,σ3,H3,I3,st3,fr3,w3⟩;rcases turn i n σ3 H3 w3 with ⟨stop,qn⟩ | ⟨go,N,hN,step⟩
 ·refine xl hp (thn (T.done X rfl rfl rfl hc i pins s3 σ3 H3 X.xe I3 (stat fr3) st3 stop) fun r s4 ⟨hr,I4⟩=>?_);subst hr;exact XB ⟨σ3,H3,I4,qn⟩
 ·refine xl hp (thn (T.item X rfl rfl rfl hc i pins s3 σ3 H3 X.xe I3 (stat fr3) st3 go) fun r s4 ⟨u,hr,h4⟩=>?_);subst hr;refine xl hp (thn h4 fun _ s5 ⟨x,H5,I5,r5,y5,st5,fr5⟩=>?_);have I5':=I5.pinned (stat fr5) (T.obj _ _ st5);refine xl hp (thn (hg _ s5 σ3 H5 x u _ I5' r5 (step x H5 y5)) fun _ s6 ⟨σ6,H6,I6,q6⟩=>?_);refine xl hp (thn (hb _ s6 σ6 H6 _ I6 q6) fun f s7 q7=>?_)
  have again:∀ {σ7:St} {H7:Hp},Inv X (pins++qbN fp s5.heap) σ7 H7 s7->N σ7 H7->∃ m,m < n/\∃ i σ' H',Inv X pins σ' H' s7/\tn i s7.heap/\(∀ b∈fp,H' b=none)/\W i m σ' H':=fun {σ7 H7} I7 n7=>by
   obtain ⟨m',hm,w7⟩:=hN σ7 H7 n7;refine ⟨m',hm,i + 1,σ7,H7,I7.unpinned,T.keep _ _ _ st5 fun b hb o e=>(I7.pin (b,o) (yK _ (yK _ (zE hb e)))).1,fun b hb=>?_,w7⟩;obtain ⟨o,e,d⟩:=T.obj _ _ st5 b hb;exact (I7.pin (b,o) (yK _ (yK _ (zE hb e)))).2.1
  cases f with
  | next=>obtain ⟨σ7,H7,I7,n7⟩:=q7;exact again I7 n7
  | cont=>obtain ⟨σ7,H7,I7,n7⟩:=q7;exact again I7 n7
  | brk=>obtain ⟨σ7,H7,I7,q7⟩:=q7;exact ⟨σ7,H7,I7.unpinned,q7⟩
  | ret v=>obtain ⟨x7,σ7,H7,I7,r7,q7⟩:=q7;exact ⟨x7,σ7,H7,I7.unpinned,r7,q7⟩
end
theorem jj {K:yg} (Pv:Nat->St->Hp->Prop) (h0:Pv 0 σ H) (hl:∀ i σ H,i<=xs.length->Pv i σ H->SqL K H a xs)
  (hs:∀ i x σ H,xs[i]?=some x->Pv i σ H->g x σ H fun σ2 H2=>tb { D with nx:=Pv (i + 1),ct:=Pv (i + 1),bk:=D.nx } σ2 H2) (hd:∀ σ H,Pv xs.length σ H->D.nx σ H) :
  ∃ W:Nat->Nat->St->Hp->Prop,(∃ m,W 0 m σ H)/\∀ i m σ H,W i m σ H ->
   ((Itl K a).stop i H/\D.nx σ H)\/((Itl K a).go i H/\∃ N:St->Hp->Prop,(∀ σ' H',N σ' H'->∃ m',m' < m/\W (i + 1) m' σ' H')/\∀ x H',(Itl K a).yld i H x H'->g x σ H' fun σ2 H2=>tb { D with nx:=N,ct:=N,bk:=D.nx } σ2 H2):=by
 refine ⟨fun i m σ H=>m=xs.length - i/\i<=xs.length/\Pv i σ H,⟨xs.length,by simp,YC _,h0⟩,?_⟩;rintro i m σ H ⟨rfl,hi,p⟩;have q:=hl i σ H hi p;by_cases hlt:i < xs.length
 ·refine .inr ⟨⟨xs,xs[i],q,by simp [hlt]⟩,Pv (i + 1),fun σ' H' p'=>⟨xs.length - (i + 1),by omega,rfl,hlt,p'⟩,fun x H' y=>?_⟩;obtain ⟨e,y⟩:=y;subst e;exact hs i x σ _ (y xs q) p
 ·have e:i=xs.length:=by omega
  subst e;exact .inl ⟨⟨xs,q,yh _⟩,hd σ H p⟩
theorem for_tup {K:yg} (Pv:Nat->St->Hp->Prop) (h0:Pv 0 σ H) (hl:∀ i σ H,i<=xs.length->Pv i σ H->SqT K H a xs)
  (hs:∀ i x σ H,xs[i]?=some x->Pv i σ H->g x σ H fun σ2 H2=>tb { D with nx:=Pv (i + 1),ct:=Pv (i + 1),bk:=D.nx } σ2 H2) (hd:∀ σ H,Pv xs.length σ H->D.nx σ H) :
  ∃ W:Nat->Nat->St->Hp->Prop,(∃ m,W 0 m σ H)/\∀ i m σ H,W i m σ H ->
   ((Itt K a).stop i H/\D.nx σ H)\/((Itt K a).go i H/\∃ N:St->Hp->Prop,(∀ σ' H',N σ' H'->∃ m',m' < m/\W (i + 1) m' σ' H')/\∀ x H',(Itt K a).yld i H x H'->g x σ H' fun σ2 H2=>tb { D with nx:=N,ct:=N,bk:=D.nx } σ2 H2):=by
 refine ⟨fun i m σ H=>m=xs.length - i/\i<=xs.length/\Pv i σ H,⟨xs.length,by simp,YC _,h0⟩,?_⟩;rintro i m σ H ⟨rfl,hi,p⟩;have q:=hl i σ H hi p;by_cases hlt:i < xs.length
 ·refine .inr ⟨⟨xs,xs[i],q,by simp [hlt]⟩,Pv (i + 1),fun σ' H' p'=>⟨xs.length - (i + 1),by omega,rfl,hlt,p'⟩,fun x H' y=>?_⟩;obtain ⟨e,y⟩:=y;subst e;exact hs i x σ _ (y xs q) p
 ·have e:i=xs.length:=by omega
  subst e;exact .inl ⟨⟨xs,q,yh _⟩,hd σ H p⟩
theorem jl (Pv:Nat->St->Hp->Prop) (h0:Pv 0 σ H)
  (hs:∀ i σ H,i < n->Pv i σ H->g (.int (lo + i)) σ H fun σ2 H2=>tb { D with nx:=Pv (i + 1),ct:=Pv (i + 1),bk:=D.nx } σ2 H2) (hd:∀ σ H,Pv n σ H->D.nx σ H) :
  ∃ W:Nat->Nat->St->Hp->Prop,(∃ m,W 0 m σ H)/\∀ i m σ H,W i m σ H ->
   ((Itr lo n).stop i H/\D.nx σ H)\/((Itr lo n).go i H/\∃ N:St->Hp->Prop,(∀ σ' H',N σ' H'->∃ m',m' < m/\W (i + 1) m' σ' H')/\∀ x H',(Itr lo n).yld i H x H'->g x σ H' fun σ2 H2=>tb { D with nx:=N,ct:=N,bk:=D.nx } σ2 H2):=by
 refine ⟨fun i m σ H=>m=n - i/\i<=n/\Pv i σ H,⟨n,by simp,YC _,h0⟩,?_⟩;rintro i m σ H ⟨rfl,hi,p⟩;by_cases hlt:i < n
 ·refine .inr ⟨hlt,Pv (i + 1),fun σ' H' p'=>⟨n - (i + 1),by omega,rfl,hlt,p'⟩,fun x H' y=>?_⟩;obtain ⟨e,y⟩:=y;subst e y;exact hs i σ _ hlt p
 ·have e:i=n:=by omega
  subst e;exact .inl ⟨yh _,hd σ H p⟩
noncomputable abbrev R2:=V->V->Hp->VK->Prop
noncomputable def OpR (X:Cx) (f:Value->Value->Sem Value) (r:R2):Prop:=
 ∀ (pins:List (Addr×Obj)) (s:Shared) (σ:St) (H:Hp) (x y:V) (v u:Value) (Q:VK),Inv X pins σ H s->RelV x v->RelV y u->r x y H Q ->
  wpAny (model X.prog X.w) X.A (f v u) (EP X pins σ Q) X.xe s
noncomputable def UnR (X:Cx) (f:Value->Sem Value) (r:V->Hp->VK->Prop):Prop:=
 ∀ (pins:List (Addr×Obj)) (s:Shared) (σ:St) (H:Hp) (x:V) (v:Value) (Q:VK),Inv X pins σ H s->RelV x v->r x H Q ->
  wpAny (model X.prog X.w) X.A (f v) (EP X pins σ Q) X.xe s
noncomputable def zi (X:Cx) (f:Value) (r:List V->Hp->VK->Prop):Prop:=
 ∀ (pins:List (Addr×Obj)) (s:Shared) (σ:St) (H:Hp) (xs:List V) (us:List Value) (Q:VK),Inv X pins σ H s->Vals xs us->r xs H Q ->
  wpAny (model X.prog X.w) X.A (call f us) (EP X pins σ Q) X.xe s
noncomputable def tOp (r:R2) (ta tb:TE):TE:=fun σ H Q=>ta σ H fun x H1=>tb σ H1 fun y H2=>r x y H2 Q
noncomputable def tUn (r:V->Hp->VK->Prop) (ta:TE):TE:=fun σ H Q=>ta σ H fun x H1=>r x H1 Q
noncomputable def rI (C:Int->Int->Prop) (g:Int->Int->V):R2:=fun x y H Q=>∃ i j,x=.int i/\y=.int j/\C i j/\Q (g i j) H
noncomputable def rI0 (g:Int->Int->V):R2:=fun x y H Q=>∃ i j,x=.int i/\y=.int j/\Q (g i j) H
noncomputable def rU (g:Int->V):V->Hp->VK->Prop:=fun x H Q=>∃ i,x=.int i/\Q (g i) H
section
variable {X:Cx} {a b c:Expr} {ta tb tc:TE} {pos:Pos}
theorem qfC (ha:PE X a ta) (hb:PE X b tb) {R:V->V->Hp->Prop} (I:Inv X pins σ H s)
  (h:ta σ H fun x H1=>tb σ H1 fun y H2=>R x y H2) {Q:Value->Shared->Prop}
  (hf:∀ v u s2 x y H2,Inv X pins σ H2 s2->RelV x v->RelV y u->R x y H2->wpAny (model X.prog X.w) X.A (f v u) Q X.xe s2) :
  wpAny (model X.prog X.w) X.A (eval a X.env) (fun v s₁=>wpAny (model X.prog X.w) X.A (eval b X.env) (fun u s₂=>wpAny (model X.prog X.w) X.A (f v u) Q X.xe s₂) X.xe s₁) X.xe s:=by
 refine thn (ha pins s σ H _ I h) fun v s1 ⟨x,H1,I1,r1,q1⟩=>?_;refine thn (hb pins s1 σ H1 _ I1 q1) fun u s2 ⟨y,H2,I2,r2,q2⟩=>?_;exact hf v u s2 x y H2 I2 r1 r2 q2
theorem qC {op:Operator} (ho:OpR X (binaryOp op) r) (ha:PE X a ta) (hb:PE X b tb):PE X (.BinOp a op b pos) (tOp r ta tb):=by
 intro pins s σ H Q I h;exact wpAny_BinOp (qfC ha hb I h fun v u s2 x y H2 I2 rx ry q=>ho pins s2 σ H2 x y v u Q I2 rx ry q)
theorem qaQ {op:UnaryOp} {r:V->Hp->VK->Prop} (ho:UnR X (unaryOp op) r) (ha:PE X a ta):PE X (.UnaryOp op a pos) (tUn r ta):=by
 intro pins s σ H Q I h;exact UnaryOp_ (thn (ha pins s σ H _ I h) fun v s1 ⟨x,H1,I1,r1,q1⟩=>ho pins s1 σ H1 x v Q I1 r1 q1)
theorem opI {C:Int->Int->Prop} {g:Int->Int->Int}
  (rule:∀ (i j:Int) (t u:Tok) (s:Shared) (Q:Value->Shared->Prop) (E:Value->Shared->Prop),C i j->Q (.int (g i j) s.toks) { s with toks:=s.toks + 1 }->wpAny (model X.prog X.w) X.A (f (.int i t) (.int j u)) Q E s) :
  OpR X f (rI C fun i j=>.int (g i j)):=by
 intro pins s σ H x y v u Q I rx ry h;obtain ⟨i,j,rfl,rfl,hc,q⟩:=h;obtain ⟨t,rfl⟩:=rx;obtain ⟨t',rfl⟩:=ry;exact rule i j t t' s _ _ hc ⟨.int (g i j),H,I.tok _,⟨_,rfl⟩,q⟩
theorem qfu {g:Int->Int->Int}
  (rule:∀ (i j:Int) (t u:Tok) (s:Shared) (Q:Value->Shared->Prop) (E:Value->Shared->Prop),Q (.int (g i j) s.toks) { s with toks:=s.toks + 1 }->wpAny (model X.prog X.w) X.A (f (.int i t) (.int j u)) Q E s) :
  OpR X f (rI0 fun i j=>.int (g i j)):=by
 intro pins s σ H x y v u Q I rx ry h;obtain ⟨i,j,rfl,rfl,q⟩:=h;obtain ⟨t,rfl⟩:=rx;obtain ⟨t',rfl⟩:=ry;exact rule i j t t' s _ _ ⟨.int (g i j),H,I.tok _,⟨_,rfl⟩,q⟩
theorem qfD {g:Int->Int->Bool}
  (rule:∀ (i j:Int) (t u:Tok) (s:Shared) (Q:Value->Shared->Prop) (E:Value->Shared->Prop),Q (.bool (g i j)) s->wpAny (model X.prog X.w) X.A (f (.int i t) (.int j u)) Q E s) :
  OpR X f (rI0 fun i j=>.bl (g i j)):=by
 intro pins s σ H x y v u Q I rx ry h;obtain ⟨i,j,rfl,rfl,q⟩:=h;obtain ⟨t,rfl⟩:=rx;obtain ⟨t',rfl⟩:=ry;exact rule i j t t' s _ _ ⟨.bl (g i j),H,I,rfl,q⟩
noncomputable def CDiv (i j:Int):Prop:=0 < j/\j < 1073741824
noncomputable def qfT (i j:Int):Prop:=0<=j/\j<=1000000/\i.natAbs < 2 ^ 64
noncomputable def CMul (i j:Int):Prop:=(-(2 ^ 64) < i/\i < 2 ^ 64)\/(-(2 ^ 64) < j/\j < 2 ^ 64)
theorem CMul.ok {i j:Int} (h:CMul i j):IntMulOk i j:=by
 rcases h with ⟨h1,h2⟩ | ⟨h1,h2⟩
 ·exact .of_left (intBits_le_64 h1 h2)
 ·exact .of_right (intBits_le_64 h1 h2)
theorem two_pow_nn (k:Nat):(0:Int)<=2 ^ k:=by
 rw [two_pow_cast];exact Int.natCast_nonneg _
theorem op_add:OpR X (binaryOp .Add) (rI0 fun i j=>.int (i + j)):=qfu fun _ _ _ _ _ _ _ q=>add_int q
theorem qay:OpR X (binaryOp .Sub) (rI0 fun i j=>.int (i - j)):=qfu fun _ _ _ _ _ _ _ q=>sub_int q
theorem op_mul:OpR X (binaryOp .Mult) (rI CMul fun i j=>.int (i * j)):=opI fun _ _ _ _ _ _ _ hc q=>mul_int q hc.ok
theorem qcn:OpR X (binaryOp .FloorDiv) (rI CDiv fun i j=>.int (i / j)):=opI fun i j _ _ _ _ _ hc q=>by
 have h1:(0:Int) < j:=hc.1;have h2:j < 1073741824:=hc.2;exact floordiv_int (by omega) (by rw [Int.fdiv_eq_ediv_of_nonneg i (by omega)];exact q) (.inl (PyProof.noPylong_small (by omega)))
theorem zT:OpR X (binaryOp .Mod) (rI (fun _ j=>0 < j) fun i j=>.int (i % j)):=opI fun i j _ _ _ _ _ hc q=>by
 have h1:(0:Int) < j:=hc;exact mod_int' (by omega) (by rw [Int.fmod_eq_emod_of_nonneg i (by omega)];exact q)
theorem op_pow:OpR X (binaryOp .Pow) (rI qfT fun i j=>.int (i ^ j.toNat)):=opI fun _ _ _ _ _ _ _ hc q=>pow_int_small hc.1 hc.2.1 hc.2.2 q
theorem qbO:OpR X (binaryOp .LShift) (rI qfT fun i j=>.int (i * 2 ^ j.toNat)):=opI fun _ _ _ _ _ _ _ hc q=>lshift_int_small hc.1 hc.2.1 hc.2.2 q
theorem qdh:OpR X (binaryOp .RShift) (rI (fun _ j=>0<=j) fun i j=>.int (i / 2 ^ j.toNat)):=opI fun i j _ _ _ _ _ hc q =>
 rshift_int hc (by rw [Int.fdiv_eq_ediv_of_nonneg i (two_pow_nn _)];exact q)
theorem qdi:OpR X (binaryOp .BitAnd) (rI0 fun i j=>.int (Builtin.bitAnd i j)):=qfu fun _ _ _ _ _ _ _ q=>and_int q
theorem qeF:OpR X (binaryOp .BitOr) (rI0 fun i j=>.int (Builtin.bitOr i j)):=qfu fun _ _ _ _ _ _ _ q=>or_int q
theorem unI {f:Value->Sem Value} {g:Int->Int}
  (rule:∀ (i:Int) (t:Tok) (s:Shared) (Q:Value->Shared->Prop) (E:Value->Shared->Prop),Q (.int (g i) s.toks) { s with toks:=s.toks + 1 }->wpAny (model X.prog X.w) X.A (f (.int i t)) Q E s) :
  UnR X f (rU fun i=>.int (g i)):=by
 intro pins s σ H x v Q I rx h;obtain ⟨i,rfl,q⟩:=h;obtain ⟨t,rfl⟩:=rx;exact rule i t s _ _ ⟨.int (g i),H,I.tok _,⟨_,rfl⟩,q⟩
theorem zx:UnR X (unaryOp .USub) (rU fun i=>.int (-i)):=unI fun _ _ _ _ _ q=>neg_int q
end
noncomputable def scal:V->V->Bool
 | .non,.non=>true | .non,.int _=>true | .int _,.non=>true | .non,.bl _=>true | .bl _,.non=>true | .non,.str _=>true | .str _,.non=>true
 | .int _,.int _=>true | .bl _,.bl _=>true | .str _,.str _=>true | .byt _,.byt _=>true
 | .int _,.str _=>true | .str _,.int _=>true | .bl _,.str _=>true | .str _,.bl _=>true
 | _,_=>false
noncomputable def rEq:R2:=fun x y H Q=>scal x y=true/\Q (.bl (decide (x=y))) H
theorem dec_bl {i j:Bool}:decide (V.bl i=V.bl j)=(i==j):=by
 rw [Yq];simp
section
variable {X:Cx} {a b c:Expr} {ta tb tc:TE} {pos:Pos}
theorem qcM {Q:VK} {k k':Bool} (I:Inv X pins σ H s) (q:Q (.bl k) H) (e:k=k'):EP X pins σ Q (.bool k') s:=by
 subst e;exact ⟨.bl k,H,I,rfl,q⟩
theorem qdj:OpR X (compareOp .Lt) (rI0 fun i j=>.bl (decide (i < j))):=qfD fun _ _ _ _ _ _ _ q=>lt_int q
theorem op_le:OpR X (compareOp .LtE) (rI0 fun i j=>.bl (decide (i<=j))):=qfD fun _ _ _ _ _ _ _ q=>le_int q
theorem qdb:OpR X (compareOp .Gt) (rI0 fun i j=>.bl (decide (j < i))):=qfD fun _ _ _ _ _ _ _ q=>gt_int q
theorem op_isN:OpR X (compareOp .Is) (fun x y H Q=>y=.non/\Q (.bl (decide (x=.non))) H):=by
 intro pins s σ H x y v u Q I rx ry h;obtain ⟨rfl,q⟩:=h;cases ry;refine is_none_gen (qcM I q ?_);cases x<;>first
  | (cases rx;rfl)
  | (obtain ⟨t,rfl⟩:=rx;rfl)
theorem qco:OpR X (compareOp .IsNot) (fun x y H Q=>y=.non/\Q (.bl (!decide (x=.non))) H):=by
 intro pins s σ H x y v u Q I rx ry h;obtain ⟨rfl,q⟩:=h;cases ry;refine isnot_none_gen (qcM I q ?_);cases x<;>first
  | (cases rx;rfl)
  | (obtain ⟨t,rfl⟩:=rx;rfl)
theorem qD (b:Expr) (h:op≠.In:=by decide) (h2:op≠.NotIn:=by decide):behindInMarks op b=false:=by
 have e1:(op==CmpOp.In)=false:=by cases op<;>first | rfl | exact absurd rfl h
 have e2:(op==CmpOp.NotIn)=false:=by cases op<;>first | rfl | exact absurd rfl h2
 cases b<;>simp [behindInMarks,e1,e2]
theorem jC (ho:OpR X (compareOp op) r) (ha:PE X a ta) (hb:PE X b tb) (hm:behindInMarks op b=false):PE X (.Compare a [op] [b] pos) (tOp r ta tb):=by
 intro pins s σ H Q I h;exact wpAny_Compare1 (qfC ha hb I h fun v u s2 x y H2 I2 rx ry q=>ho pins s2 σ H2 x y v u Q I2 rx ry q) hm
noncomputable def qeG (t:TE):TT:=fun σ H Q=>t σ H fun x H'=>∃ k,x=.bl k/\Q k H'
theorem qp (ho:OpR X (compareOp op) r) (ha:PE X a ta) (hb:PE X b tb) (hm:behindInMarks op b=false):PT X (.Compare a [op] [b] pos) (qeG (tOp r ta tb)):=by
 intro pins s σ H Q I h
 refine wpAny_isTrue_Compare1 (thn (ha pins s σ H _ I h) fun v s1 ⟨x,H1,I1,r1,q1⟩=>thn (hb pins s1 σ H1 _ I1 q1) fun u s2 ⟨y,H2,I2,r2,q2⟩ =>
  thn (ho pins s2 σ H2 x y v u _ I2 r1 r2 q2) fun c s3 ⟨z,H3,I3,r3,k,e,q3⟩=>?_) hm
 subst e;cases r3;exact Y1 ⟨H3,I3,q3⟩
noncomputable def qdk (r r':R2) (ta tb tc:TE):TE:=fun σ H Q=>ta σ H fun x H1=>tb σ H1 fun y H2=>r x y H2 fun z H3=>∃ k,z=.bl k /\
 (if k=true then tc σ H3 fun w' H4=>r' y w' H4 Q else Q (.bl false) H3)
theorem pe_chain (ho:OpR X (compareOp op) r) (ho':OpR X (compareOp op') r') (ha:PE X a ta) (hb:PE X b tb) (hc:PE X c tc)
  (hm:lastMarks [op,op'] [b,c]=false:=by with_unfolding_all rfl):PE X (.Compare a [op,op'] [b,c] pos) (qdk r r' ta tb tc):=by
 intro pins s σ H Q I h
 refine Compare_chain (thn (ha pins s σ H _ I h) fun v s1 ⟨x,H1,I1,r1,q1⟩=>chain_link (thn (hb pins s1 σ H1 _ I1 q1) fun u s2 ⟨y,H2,I2,r2,q2⟩ =>
  thn (ho pins s2 σ H2 x y v u _ I2 r1 r2 q2) fun d s3 ⟨z,H3,I3,r3,k,e,q3⟩=>?_)) hm
 subst e;cases r3;refine Y1 ?_
 cases k with
 | false=>exact ite_ff ⟨.bl false,H3,I3,rfl,q3⟩
 | true=>exact ite_tt (chain_last (thn (hc pins s3 σ H3 _ I3 q3) fun w' s4 ⟨z',H4,I4,r4,q4⟩=>ho' pins s4 σ H4 y z' u w' Q I4 r2 r4 q4))
theorem pt_chain (ho:OpR X (compareOp op) r) (ho':OpR X (compareOp op') r') (ha:PE X a ta) (hb:PE X b tb) (hc:PE X c tc)
  (hm:lastMarks [op,op'] [b,c]=false:=by with_unfolding_all rfl):PT X (.Compare a [op,op'] [b,c] pos) (qeG (qdk r r' ta tb tc)):=by
 intro pins s σ H Q I h
 refine isTrue_chain (thn (ha pins s σ H _ I h) fun v s1 ⟨x,H1,I1,r1,q1⟩=>test_link (thn (hb pins s1 σ H1 _ I1 q1) fun u s2 ⟨y,H2,I2,r2,q2⟩ =>
  thn (ho pins s2 σ H2 x y v u _ I2 r1 r2 q2) fun d s3 ⟨z,H3,I3,r3,k,e,q3⟩=>?_)) hm
 subst e;cases r3;refine Y1 ?_
 cases k with
 | false =>
  obtain ⟨k',e',q'⟩:=q3;cases e';exact ite_ff ⟨H3,I3,q'⟩
 | true =>
  refine ite_tt (test_last (thn (hc pins s3 σ H3 _ I3 q3) fun w' s4 ⟨z',H4,I4,r4,q4⟩=>thn (ho' pins s4 σ H4 y z' u w' _ I4 r2 r4 q4) fun d' s5 ⟨z2,H5,I5,r5,k2,e2,q5⟩=>?_));subst e2;cases r5;exact Y1 ⟨H5,I5,q5⟩
theorem qbe:(sizeLine:Nat) < 2 ^ 63:=by rw [Yx];decide
theorem op_add_str:OpR X (binaryOp .Add) (fun x y H Q=>∃ i j,x=.str i/\y=.str j/\i.length + j.length<=sizeLine/\Q (.str (i++j)) H):=by
 intro pins s σ H x y v u Q I rx ry h;obtain ⟨i,j,rfl,rfl,hz,q⟩:=h;obtain ⟨t,rfl⟩:=rx;obtain ⟨t',rfl⟩:=ry;exact add_str (fun t' tk=>⟨.str (i++j),H,I.tok _,⟨_,rfl⟩,q⟩) hz
theorem qaR {x:V} (r:Vals [x] us):∃ u,us=[u]/\RelV x u:=by
 cases r with
 | cons r1 r2=>cases r2;exact ⟨_,rfl,r1⟩
theorem qdl {x:V} (r:Vals [x,y] us):∃ u w',us=[u,w']/\RelV x u/\RelV y w':=by
 cases r with
 | cons r1 r2 =>
  cases r2 with
  | cons r3 r4=>cases r4;exact ⟨_,_,rfl,r1,r3⟩
theorem qac (hc:X.calm=true):zi X (.builtin "max") (fun xs H Q=>∃ i j,xs=[.int i,.int j]/\Q (.int (if j > i then j else i)) H):=by
 intro pins s σ H xs us Q I r h;obtain ⟨i,j,rfl,q⟩:=h;obtain ⟨u,w',rfl,⟨t,rfl⟩,⟨t',rfl⟩⟩:=qdl r;refine max_two_ints (I.ok.hd hc) fun h' tk k=>⟨_,H,I.kept k,?_,q⟩;by_cases hj:j > i
 ·rw [yE hj,yE hj];exact ⟨_,rfl⟩
 ·rw [yy hj,yy hj];exact ⟨_,rfl⟩
theorem qad (hc:X.calm=true):zi X (.builtin "min") (fun xs H Q=>∃ i j,xs=[.int i,.int j]/\Q (.int (if j < i then j else i)) H):=by
 intro pins s σ H xs us Q I r h;obtain ⟨i,j,rfl,q⟩:=h;obtain ⟨u,w',rfl,⟨t,rfl⟩,⟨t',rfl⟩⟩:=qdl r;refine min_two_ints (I.ok.hd hc) fun h' tk k=>⟨_,H,I.kept k,?_,q⟩;by_cases hj:j < i
 ·rw [yE hj,yE hj];exact ⟨_,rfl⟩
 ·rw [yy hj,yy hj];exact ⟨_,rfl⟩
theorem qae:zi X (.type "int") (fun xs H Q=>(∃ i,xs=[.int i]/\Q (.int i) H)\/∃ k,xs=[.bl k]/\Q (.int (if k then 1 else 0)) H):=by
 intro pins s σ H xs us Q I r h;rcases h with ⟨i,rfl,q⟩ | ⟨k,rfl,q⟩
 ·obtain ⟨u,rfl,t,rfl⟩:=qaR r;exact call_int_int ⟨.int i,H,I,⟨_,rfl⟩,q⟩
 ·obtain ⟨u,rfl,r1⟩:=qaR r;cases r1;exact call_int_bool ⟨.int (if k then 1 else 0),H,I.tok _,⟨_,rfl⟩,q⟩
end
structure ObjM (h:Heap) (x dx C:Addr) (mA:Str->Option Value):Prop where
 obj:h.get? x=some (PySem.W.instObj C dx)
 ns:h.Ns1 dx mA
 ne:dx≠x
theorem qbP (n:h.Ns1 dx mA):∃ od,h.get? dx=some od/\∀ name,PySem.W.lookIn name od=some (mA name):=by
 obtain ⟨o,es,ep,ho,hd,hk,_,hm⟩:=n;refine ⟨o,ho,fun name=>?_⟩;have e:=hm name;unfold nsFind findBy at e;rw [<- Array.find?_toList] at e;unfold PySem.W.lookIn;rw [hd];dsimp only;split
 ·rename_i y q
  rw [q] at e;exact congrArg some e
 ·rename_i q
  rw [q] at e
  have a:es.toList.any (·.refKey)=false:=by
   rw [List.any_eq_false];intro y hy;obtain ⟨z,t,hkey⟩:=hk y (Array.mem_toList_iff.mp hy);simp [DictEntry.refKey,hkey]
  have a':¬ es.toList.any (·.refKey)=true:=by rw [a];exact Yj
  rw [yy a'];exact congrArg some e
theorem ObjM.look {x:Addr} (I:ObjM h x dx C mA):∃ od,PySem.W.InstAt h x (PySem.W.instObj C dx) C (some od)/\∀ name,PySem.W.lookIn name od=some (mA name):=
 let ⟨od,ho,hl⟩:=qbP I.ns
 ⟨od,⟨I.obj,rfl,rfl,ho⟩,hl⟩
section
variable {prog:Program} {w:World} {A:Around} {E:Value->Shared->Prop} {s:Shared} {K:yg} {x dx C f:Addr} {mA:Str->Option Value} {name:Str} {v:Value}
theorem get_map {expr:Bool} {Q:Value->Shared->Prop} (X:K.In s.heap) (I:ObjM s.heap x dx C mA) (hg:PySem.W.plainGet K C name=true) (hh:PySem.W.hasDictIn K C=true)
  (ha:PySem.W.findIn K (.ref C) name=some none) (hv:mA name=some v) (hv':PySem.W.handedIn v=true) (h:Q v { s with toks:=s.toks + 1 }) :
  wpAny (model prog w) A (getAttr (.ref x) name expr) Q E s:=by
 obtain ⟨od,J,hl⟩:=I.look;exact PySem.W.get_value X J (XR hg).1 (PySem.W.findObj_own hh ha rfl (by rw [hl,hv])) hv' h
theorem get_meth {Q:Value×List Value->Shared->Prop} (X:K.In s.heap) (I:ObjM s.heap x dx C mA) (hg:PySem.W.plainGet K C name=true)
  (hf:PySem.W.findIn K (.ref C) name=some (some (.ref f))) (ht:PySem.W.isFn K (.ref f)=true) (hv:mA name=none) (h:Q (.ref f,[.ref x]) s) :
  wpAny (model prog w) A (getMethod (.ref x) name pl) Q E s:=by
 obtain ⟨od,J,hl⟩:=I.look;exact PySem.W.method_fn X J (XR hg).1 (XR hg).2 hf (Ym.mp ht) (by show (PySem.W.lookIn name od).map (·.isSome)=some false;rw [hl,hv];rfl) h
theorem set_map {ns:List Str} {Q:Unit->Shared->Prop} (X:K.In s.heap) (I:ObjM s.heap x dx C mA)
  (hs:PySem.W.findIn K (.ref C) "__setattr__"=some (some (.builtin "object.__setattr__"))) (hp:PySem.W.plainOver K C=true) (ht:PySem.W.takerIn K C name=some none) (hh:PySem.W.hasDictIn K C=true)
  (hw:PySem.Within mA ns) (hsz:ns.length<=sizeLine)
  (h:∀ h',ObjM h' x dx C (fun y=>if y=name then some v else mA y)->Heap.SameBut dx s.heap h'->Q () { s with heap:=h',toks:=s.toks + 2 }) :
  wpAny (model prog w) A (setAttr (.ref x) name v) Q E s:=by
 obtain ⟨od,J,hl⟩:=I.look;refine PySem.W.set_plain X J hs (PySem.W.osa_open (s:={ s with toks:=s.toks + 1 }) (r:=none) X J hp ht fun b=>?_);obtain ⟨cd,hc,hd'⟩:=xw hh;have hx:s.heap.get? x=some ⟨.ref C,some dx,.plain,#[]⟩:=I.obj;refine yr (yu (yr (yr (wpAny_loadPart hx (yr (PySem.W.Looks.here (s:={ s with toks:=s.toks + 1 }) (XS X hc) ?_))))));rw [hd'];refine yu (a:=some dx) (yr (yu (yr ?_)));refine wpAny_nsSet1 (s:={ s with toks:=s.toks + 1 }) I.ns fun h' hn2 hs2=>?_;obtain ⟨oD,esD,epD,hoD,hdD,hcD⟩:=hn2.count (PySem.Within.cons name v hw);refine yr (wpAny_lookBehind hoD (by rw [hdD];exact pastItsLine_dict (yi hcD (by rw [yC];omega))) ?_);exact yu (h _ ⟨(hs2.2 _ (Ye I.ne)).trans I.obj,hn2,I.ne⟩ hs2)
theorem make_map {R:Result->Shared->Prop} {vs:List Value} (X:K.In s.heap) (hm:PySem.W.makesIn K C=true)
  (hi:PySem.W.findIn K (.ref C) "__init__"=some (some (.ref f))) (hf:PySem.W.typeIn K (.ref f)=some (.type "function"))
  (h:codeAny (model prog w) (A.under (.builtin "type.__call__" ⟨.ref C::vs,kw⟩)) (.call (.ref f) ⟨.ref (s.heap.objs.size + 1)::vs,kw⟩) (PySem.W.InitBack (s.heap.objs.size + 1) R)
   { s with heap:=(s.heap.push PySem.W.emptyDict).push (PySem.W.instObj C s.heap.objs.size) }) :
  codeAny (model prog w) A (.call (.ref C) ⟨vs,kw⟩) R s:=by
 obtain ⟨hh,g,d,t,os⟩:=s;exact PySem.W.make_core (PySem.W.makes_of X hm) (YY X hi) (fun self=>PySem.W.bind_fn X self hf) (.inl rfl) h
end
noncomputable def qE (f:Str) (v:V):List (Str×V)->List (Str×V)
 | []=>[(f,v)]
 | (g,x)::r=>if g=f then (g,v)::r else (g,x)::qE f v r
theorem qz (f g:Str) (v:V):∀ fs:List (Str×V),(qE f v fs).lookup g=if g=f then some v else fs.lookup g
 | []=>by
  show List.lookup g [(f,v)]=_;by_cases h:g=f
  ·have hb:(g==f)=true:=Ym.mpr h;simp only [List.lookup,hb,yE h]
  ·have hb:(g==f)=false:=YB.mpr h;simp only [List.lookup,hb,yy h]
 | (k,x)::r=>by
  have ih:=qz f g v r;rw [show qE f v ((k,x)::r)=(if k=f then (k,v)::r else (k,x)::qE f v r) from rfl];by_cases hk:k=f
  ·rw [yE hk];by_cases h:g=k
   ·have hb:(g==k)=true:=Ym.mpr h;simp only [List.lookup,hb,yE (h.trans hk)]
   ·have hb:(g==k)=false:=YB.mpr h;simp only [List.lookup,hb,yy (fun e:g=f=>h (e.trans hk.symm))]
  ·rw [yy hk];by_cases h:g=k
   ·have hb:(g==k)=true:=Ym.mpr h;simp only [List.lookup,hb,yy (fun e:g=f=>hk (h.symm.trans e))]
   ·have hb:(g==k)=false:=YB.mpr h;simp only [List.lookup,hb];exact ih
theorem qaS (f:Str) (v:V):∀ fs:List (Str×V),f∈(qE f v fs).map (·.1)/\∀ g,g∈fs.map (·.1)->g∈(qE f v fs).map (·.1)
 | []=>⟨by simp [qE],fun g h=>by simp at h⟩
 | (k,x)::r=>by
  obtain ⟨i1,i2⟩:=qaS f v r;rw [show qE f v ((k,x)::r)=(if k=f then (k,v)::r else (k,x)::qE f v r) from rfl];by_cases hk:k=f
  ·rw [yE hk];subst hk;exact ⟨by simp,fun g h=>by simpa using h⟩
  ·rw [yy hk];refine ⟨?_,fun g h=>?_⟩
   ·rw [Yy];exact yA _ i1
   ·rw [Yy] at h ⊢;rcases yx.mp h with e | e
    ·exact yx.mpr (.inl e)
    ·exact yA _ (i2 g e)
theorem js (f:Str) (v:V):∀ fs:List (Str×V),(qE f v fs).length<=fs.length + 1
 | []=>by simp [qE]
 | (k,x)::r=>by
  have ih:=js f v r;rw [show qE f v ((k,x)::r)=(if k=f then (k,v)::r else (k,x)::qE f v r) from rfl];by_cases hk:k=f
  ·rw [yE hk,yC,yC];omega
  ·rw [yy hk,yC,yC];omega
theorem RelO.some_of {o:Option Value} (r:RelO (some v) o):∃ u,o=some u/\RelV v u:=by
 cases o with
 | none=>exact (show False from r).elim
 | some u=>exact ⟨u,rfl,r⟩
theorem RelO.none_of {o:Option Value} (r:RelO none o):o=none:=by
 cases o with
 | none=>rfl
 | some u=>exact (show False from r).elim
theorem qbQ (r:RelV v u):PySem.W.handedIn u=true:=by
 cases v with
 | non=>cases (show u=Value.none from r);rfl
 | bl b=>cases (show u=Value.bool b from r);rfl
 | int i=>obtain ⟨t,e⟩:=(show ∃ t,u=Value.int i t from r);cases e;rfl
 | str x=>obtain ⟨t,e⟩:=(show ∃ t,u=Value.str x t from r);cases e;rfl
 | byt b=>obtain ⟨t,e⟩:=(show ∃ t,u=Value.bytes b t from r);cases e;rfl
 | flt b=>obtain ⟨t,e⟩:=(show ∃ t,u=Value.float b t from r);cases e;rfl
 | ref a=>cases (show u=Value.ref a from r);rfl
 | ty n=>cases (show u=Value.type n from r);rfl
section
variable {P:Program} {w:World} {H H':Hp} {h h':Heap} {a C dx:Addr} {fs fs':List (Str×V)}
theorem qav (hok:HOk P w H h) (e:H a=some (.ins C dx fs)):∃ mA,ObjM h a dx C mA/\(∀ f,RelO (fs.lookup f) (mA f))/\PySem.Within mA (fs.map (·.1))/\fs.length<=1000/\H dx=some (.own a):=by
 obtain ⟨d,z,ne,ob,mA,n,r,q⟩:=(show ObjOk P w H h a (.ins C dx fs) from hok a _ e);exact ⟨mA,⟨ob,n,ne⟩,r,q,z,d⟩
end
structure Cls (K:yg) (C:Addr):Prop where
 pg:PySem.W.plainGet K C Str.empty=true
 hd:PySem.W.hasDictIn K C=true
 po:PySem.W.plainOver K C=true
 sa:PySem.W.findIn K (.ref C) "__setattr__"=some (some (.builtin "object.__setattr__"))
theorem Cls.get {K:yg} (c:Cls K C) (f:Str):PySem.W.plainGet K C f=true:=c.pg
noncomputable def NoAttr (K:yg) (C:Addr) (f:Str):Prop:=PySem.W.findIn K (.ref C) f=some none
theorem NoAttr.taker {K:yg} {f:Str} (n:NoAttr K C f):PySem.W.takerIn K C f=some none:=by
 unfold PySem.W.takerIn;rw [show PySem.W.findIn K (.ref C) f=some none from n];rfl
structure Con (K:yg) (C:Addr) (f:Str) (v:V) (u:Value):Prop where
 at_:PySem.W.findIn K (.ref C) f=some (some u)
 rel:RelV v u
 get:PySem.W.specialIn K u "__get__"=some none
 cp:PySem.W.copiedNames.contains f=false
structure Meth (K:yg) (C:Addr) (m:Str) (f:Addr):Prop where
 at_:PySem.W.findIn K (.ref C) m=some (some (.ref f))
 fn:PySem.W.isFn K (.ref f)=true
 kp:PySem.W.keepIn K (.ref f)=true
section
variable {X:Cx} {pins:List (Addr×Obj)} {σ:St} {H:Hp} {s:Shared} {a C dx:Addr} {fs:List (Str×V)} {f:Str} {v:V} {A:Around} {E:Value->Shared->Prop}
theorem getattr_ok {b:Bool} {Q:Value->Shared->Prop} (I:Inv X pins σ H s) (e:H a=some (.ins C dx fs)) (c:Cls X.K C) (n:NoAttr X.K C f) (l:fs.lookup f=some v)
  (h:∀ u s',Inv X pins σ H s'->RelV v u->Q u s'):wpAny (model X.prog X.w) A (getAttr (.ref a) f b) Q E s:=by
 obtain ⟨mA,O,r,_,_,_⟩:=qav I.hok e;obtain ⟨u,hu,ru⟩:=RelO.some_of (v:=v) (o:=mA f) (by rw [<- l];exact r f);exact get_map I.kIn O (c.get f) c.hd n hu (qbQ ru) (h u _ (I.tok _) ru)
theorem qbf {m:Str} {g:Addr} {Q:Value×List Value->Shared->Prop} (I:Inv X pins σ H s) (e:H a=some (.ins C dx fs)) (c:Cls X.K C) (k:Meth X.K C m g) (l:fs.lookup m=none)
  (h:Q (.ref g,[.ref a]) s):wpAny (model X.prog X.w) A (getMethod (.ref a) m pl) Q E s:=by
 obtain ⟨mA,O,r,_,_,_⟩:=qav I.hok e;have hn:mA m=none:=RelO.none_of (by rw [<- l];exact r m);exact get_meth I.kIn O (c.get m) k.at_ k.fn hn h
theorem setattr_ok {Q:Unit->Shared->Prop} (I:Inv X pins σ H s) (e:H a=some (.ins C dx fs)) (c:Cls X.K C) (n:NoAttr X.K C f) (hl:fs.length < 1000) (ry:RelV y u)
  (h:∀ s',Inv X pins σ (upd H a (.ins C dx (qE f y fs))) s'->Q () s'):wpAny (model X.prog X.w) A (setAttr (.ref a) f u) Q E s:=by
 obtain ⟨mA,O,r,wi,_,ho⟩:=qav I.hok e;have hz:(fs.map (·.1)).length<=sizeLine:=by rw [ya,Yx];omega
 refine set_map I.kIn O c.sa c.po n.taker c.hd wi hz fun h' O' sb=>h _ ?_;have hd:∃ o,h'.get? dx=some o:=let ⟨o,_,_,e',_⟩:=O'.ns;⟨o,e'⟩;refine I.write (x:=a) (e:=dx) (by rw [e];exact YL) (.inr ho) (fun b q hb z=>(sb.2 b hb).trans z) hd ?_;refine ⟨by rw [qe O.ne];exact ho,?_,O.ne,O'.obj,_,O'.ns,fun g=>?_,fun g hg=>?_⟩
 ·have:=js f y fs;omega
 ·show RelO ((qE f y fs).lookup g) (if g=f then some u else mA g);rw [qz];by_cases q:g=f
  ·rw [yE q,yE q];exact ry
  ·rw [yy q,yy q];exact r g
 ·by_cases q:g=f
  ·rw [q];exact (qaS f y fs).1
  ·refine (qaS f y fs).2 g (wi g fun z=>hg ?_);show (if g=f then some u else mA g)=none;rw [yy q];exact z
theorem Inv.made (I:Inv X pins σ H s):Inv X pins σ (upd (upd H s.heap.objs.size (.own (s.heap.objs.size + 1))) (s.heap.objs.size + 1) (.ins C s.heap.objs.size []))
  { s with heap:=(s.heap.push PySem.W.emptyDict).push (PySem.W.instObj C s.heap.objs.size) }:=by
 have e1:(s.heap.push PySem.W.emptyDict).get? s.heap.objs.size=some PySem.W.emptyDict:=yO s.heap rfl
 have e2:((s.heap.push PySem.W.emptyDict).push (PySem.W.instObj C s.heap.objs.size)).get? (s.heap.objs.size + 1)=some (PySem.W.instObj C s.heap.objs.size):=by
  have:=yO (s.heap.push PySem.W.emptyDict) (o:=PySem.W.instObj C s.heap.objs.size) rfl
  rwa [xi] at this
 have e3:(s.heap.push PySem.W.emptyDict).Ns s.heap.objs.size (fun _=>none):=⟨PySem.W.emptyDict,#[],_,e1,rfl,(fun e he=>absurd he (by simp)),fun _=>rfl⟩;have I1:=I.laid (a:=s.heap.objs.size) (o:=.own (s.heap.objs.size + 1)) (h':=s.heap.push PySem.W.emptyDict) (t':=s.toks) (fun b u q=>yv _ q) (yh _) ⟨_,e1⟩;refine I1.laid (a:=s.heap.objs.size + 1) (o:=.ins C s.heap.objs.size []) (t':=s.toks) (fun b u q=>yv _ q) (Nat.le_of_eq (xi _ _)) ?_;have ne:s.heap.objs.size≠s.heap.objs.size + 1:=yF (Xu _);refine ⟨by rw [qe ne,qb],YC _,ne,e2,fun _=>none,(Heap.Ns1.of_empty e3).at fun o q=>yv _ q,fun _=>YL,fun y hy=>absurd rfl hy⟩
theorem attr_of {prog:Program} {env:Env} {f:Str} {Q:Value->Shared->Prop} (hb:attributeBase e f env (eval e env)=eval e env)
  (h:wpAny (model prog w) A (eval e env) (fun o s₁=>wpAny (model prog w) A (getAttr o f true) Q E s₁) E s):wpAny (model prog w) A (eval (.Attribute e f pos) env) Q E s:=
 Attribute_any_ h (by rw [arm_eval_Attribute,hb])
end
section
variable {X:Cx} {o e value:Expr} {f:Str} {pos pos' tpos:Pos} {ta tv:TE}
end
section
variable {X:Cx} {pins:List (Addr×Obj)} {σ:St} {H:Hp} {s:Shared} {A:Around} {E:Value->Shared->Prop} {Q:Value->Shared->Prop} {c:Value} {b:Bool}
inductive TyOf (K:yg) (H:Hp):V->Value->Prop where
 | non:TyOf K H .non (.type "NoneType")
 | bl (x:Bool):TyOf K H (.bl x) (.type "bool")
 | int (i:Int):TyOf K H (.int i) (.type "int")
 | str (x:Str):TyOf K H (.str x) (.type "str")
 | flt (x:UInt64):TyOf K H (.flt x) (.type "float")
 | lst {a:Addr} {xs:List V} (e:H a=some (.lst xs)):TyOf K H (.ref a) (.type "list")
 | frz {a:Addr} {o:Obj} {xs:List V} (e:H a=some (.frz o (.lst xs))):TyOf K H (.ref a) (.type "list")
 | tup {a:Addr} {xs:List V} (e:H a=some (.tup xs)):TyOf K H (.ref a) (.type "tuple")
 | dK {a:Addr} {kvs:List (Key×V)} (e:H a=some (.dK kvs)):TyOf K H (.ref a) (.type "dict")
 | dT {a:Addr} {kvs:List (List Key×V)} (e:H a=some (.dT kvs)):TyOf K H (.ref a) (.type "dict")
 | ins {a C dx:Addr} {fs:List (Str×V)} (e:H a=some (.ins C dx fs)) (cl:Cls K C) (ha:PySem.W.findIn K (.ref C) "__class__"=some (some (.builtin "object.__class__")))
   (hn:PySem.W.specialIn K (.builtin "object.__class__") "__get__"=some (some (.builtin "getset_descriptor.__get__"))) (htk:PySem.W.takesIn K (.builtin "object.__class__")=some true)
   (hm:PySem.W.mroIn K C (.type "object")=some true):TyOf K H (.ref a) (.ref C)
end
structure Room (k:Nat) (A:Around):Prop where
 hd:A.handled=none
 dp:A.depth + 3 * k + 5 < recursionLimit
 un:A.units + 16 * k + 200 < cLine
 gd:A.guards=some []
theorem Room.mono {k:Nat} (r:Room k A) (h:j<=k):Room j A:=⟨r.hd,by have:=r.dp;omega,by have:=r.un;omega,r.gd⟩
theorem Room.deeper {k:Nat} (r:Room (k + 1) A) (env:Env):Room k (A.deeper env):=
 ⟨r.hd,by have:=r.dp;show A.depth + 1 + 3 * k + 5 < _;omega,by have:=r.un;show A.units + 3 + 16 * k + 200 < _;omega,r.gd⟩
theorem make_depth:(A.under (.builtin "type.__call__" ⟨.ref C::us,kw⟩)).depth=A.depth + 1:=by
 first | rfl | simp [Around.under,Code.weight,Code.isCreation,Code.isGuard,Code.isCaller,Code.frames,Code.isFrame,guardIds]
theorem make_units:(A.under (.builtin "type.__call__" ⟨.ref C::us,kw⟩)).units=A.units + 1:=by
 first | rfl | simp [Around.under,Code.cUnits,Code.frames,Code.isFrame]
theorem make_guards:(A.under (.builtin "type.__call__" ⟨.ref C::us,kw⟩)).guards=A.guards:=by
 first | rfl | simp [Around.under,Code.guards,Code.isGuard,guardIds,pushGuards]
theorem Room.make {k:Nat} (r:Room (k + 1) A) (C:Addr) (us:List Value) (kw:List (Str×Value)):Room k (A.under (.builtin "type.__call__" ⟨.ref C::us,kw⟩)):=
 ⟨r.hd,by have:=r.dp;rw [make_depth];omega,by have:=r.un;rw [make_units];omega,by rw [make_guards];exact r.gd⟩
theorem Room.depth {k:Nat} (r:Room k A):A.depth < recursionLimit:=by have:=r.dp;omega
noncomputable def qfv:TA:=fun _ H Q=>Q [] H
noncomputable def qe7 (ta:TE) (tr:TA):TA:=fun σ H Q=>ta σ H fun x H1=>tr σ H1 fun xs H2=>Q (x::xs) H2
section
variable {X:Cx} {e:Expr} {es:List Expr} {te:TE} {t:TA} {pos:Pos}
theorem qd:PA X [] qfv:=fun _ _ _ _ H Q I h=>Xl ⟨[],H,I,.nil,h⟩
theorem qa (ha:PE X e te) (hr:PA X es t) (hs:starEach (e::es) X.env=(false,eval e X.env)::starEach es X.env:=by rfl):PA X (e::es) (qe7 te t):=by
 intro pos pins s σ H Q I h;rw [hs];show wpAny _ _ (spliced ((false,eval e X.env)::backTo pos (starEach es X.env))) _ _ s;refine Xf (thn (ha pins s σ H _ I h) fun u s1 ⟨x,H1,I1,r1,q1⟩=>?_);exact thn (hr pos pins s1 σ H1 _ I1 q1) fun us s2 ⟨xs,H2,I2,r2,q2⟩=>⟨x::xs,H2,I2,.cons r1 r2,q2⟩
noncomputable def qfU (t:TA):TE:=fun σ H Q=>t σ H fun xs H1=>xs.length<=sizeLine/\∀ p,H1 p=none->Q (.ref p) (upd H1 p (.tup xs))
noncomputable def qfV (t:TA):TE:=fun σ H Q=>t σ H fun xs H1=>xs.length<=sizeLine/\∀ p,H1 p=none->Q (.ref p) (upd H1 p (.lst xs))
theorem ju {x1} (h:PA X es t):PE X (.Tuple es x1 pos) (qfU t):=by
 intro pins s σ H Q I hq;refine wpAny_Tuple_spliced (thn (h pos pins s σ H _ I hq) fun us s1 ⟨xs,H1,I1,r,z,q⟩=>⟨by rw [<- r.length];exact z,?_⟩);have hf:H1 s1.heap.objs.size=none:=I1.hok.fresh (yh _);refine ⟨.ref s1.heap.objs.size,upd H1 s1.heap.objs.size (.tup xs),I1.laid (t':=s1.toks) (fun b u e=>yv _ e) (yh _) ?_,rfl,q _ hf⟩;exact ⟨z,us,r,⟨_,yO _ rfl,rfl,_,rfl⟩⟩
theorem je (h:PA X es t):PE X (.List es pos) (qfV t):=by
 intro pins s σ H Q I hq;refine wpAny_List_spliced (thn (h pos pins s σ H _ I hq) fun us s1 ⟨xs,H1,I1,r,z,q⟩=>⟨by rw [<- r.length];exact z,?_⟩);have hf:H1 s1.heap.objs.size=none:=I1.hok.fresh (yh _);refine ⟨.ref s1.heap.objs.size,upd H1 s1.heap.objs.size (.lst xs),I1.laid (t':=s1.toks) (fun b u e=>yv _ e) (yh _) ?_,rfl,q _ hf⟩;exact ⟨z,us,0,r,yO _ rfl⟩
end
noncomputable abbrev Sp:=List V->Hp->VK->XK->Prop
noncomputable abbrev CXT:=List Env->Hp->Shared->XK->Value->Shared->Prop
structure Env0 (P:Program) (w:World) (K:yg) (mg:Str->Option Value) (base:Heap) (A:Around) (outer:List Env) (s:Shared) (H:Hp):Prop where
 frames:A.frames=some outer
 mod:Mod K mg base
 bs:∀ b o,base.get? b=some o->s.heap.get? b=some o/\H b=none
 bsz:base.objs.size<=s.heap.objs.size
 funs:s.heap.FunFrames base outer
 frf:∀ b∈frs outer,H b=none
 hok:HOk P w H s.heap
 bare:AllBare s.gens
noncomputable def CE (outer:List Env) (P:Program) (w:World) (H:Hp) (s:Shared) (Q:VK) (u:Value) (s':Shared):Prop:=
 ∃ v H',s'.os=s.os/\AllBare s'.gens/\Un (frs outer) [] H H' s.heap s'.heap/\HOk P w H' s'.heap/\RelV v u/\Q v H'
noncomputable def CR (CX:CXT) (outer:List Env) (P:Program) (w:World) (H:Hp) (s:Shared) (Q:VK) (E:XK) (r:Result) (s':Shared):Prop:=
 match r with
 | .ok (.ret u)=>CE outer P w H s Q u s'
 | .ok _=>False
 | .error e=>CX outer H s E e s'
structure FnOk (P:Program) (w:World) (K:yg) (mg:Str->Option Value) (base:Heap) (CX:CXT) (k:Nat) (f:Addr) (fd:FuncData) (ps:List Str) (sp:Sp):Prop where
 len:∀ vs H Q E,sp vs H Q E->vs.length=ps.length
 run:∀ (A:Around) (outer:List Env) (s:Shared) (H:Hp) (args:Args) (us:List Value) (vs:List V) (Q:VK) (E:XK),Room k A->Env0 P w K mg base A outer s H->BindsTo s fd args (ps.zip us)->Vals vs us->sp vs H Q E ->
  codeAny (model P w) A (.call (.ref f) args) (CR CX outer P w H s Q E) s
theorem Env0.make {K:yg} (e:Env0 P w K mg base A outer s H) (C:Addr) (us:List Value) (kw:List (Str×Value)) :
  Env0 P w K mg base (A.under (.builtin "type.__call__" ⟨.ref C::us,kw⟩)) outer s H:=⟨by first | exact e.frames | (simpa [Around.under,Code.envs,Code.isFrame,pushEnvs] using e.frames),e.mod,e.bs,e.bsz,e.funs,e.frf,e.hok,e.bare⟩
section
variable {X:Cx} {pins:List (Addr×Obj)} {σ:St} {H:Hp} {s s':Shared}
theorem Inv.env0 (I:Inv X pins σ H s):Env0 X.prog X.w X.K X.mg X.base X.A X.stack s H:=
 ⟨I.ok.frames,I.ok.mod,I.bs,yi I.ok.bsz I.sz,I.stack,I.stkFree,I.hok,I.bare⟩
theorem Inv.after {Q:VK} (I:Inv X pins σ H s) (h:CE X.stack X.prog X.w H s Q u s'):EP X pins σ Q u s':=by
 obtain ⟨v,H',os,bare,un,hok,r,q⟩:=h;obtain ⟨hh,g,d,t,os'⟩:=s';obtain rfl:os'=s.os:=os;exact ⟨v,H',I.call (h':=hh) (g':=g) (d':=d) (t':=t) (ch:=[]) un hok bare (fun b z=>absurd z (by simp)),r,q⟩
end
noncomputable def qeH (sp:Sp) (dvs:List V) (E:XK) (t:TA):TE:=fun σ H Q=>t σ H fun vs H1=>sp (vs++dvs) H1 Q E
noncomputable def qdm (C:Addr) (m:Str) (sp:Sp) (dvs:List V) (E:XK) (ta:TE) (t:TA):TE:=fun σ H Q=>ta σ H fun x H1=>∃ a dx fs,x=.ref a/\H1 a=some (.ins C dx fs)/\fs.lookup m=none /\
 t σ H1 fun vs H2=>sp (x::(vs++dvs)) H2 Q E
noncomputable def qeI (C:Addr) (sp:Sp) (dvs:List V) (E:XK) (t:TA):TE:=fun σ H Q=>t σ H fun vs H1=>∀ x dx,H1 x=none->H1 dx=none->dx≠x ->
 sp (.ref x::(vs++dvs)) (upd (upd H1 dx (.own x)) x (.ins C dx [])) (fun v H2=>v=.non/\Q (.ref x) H2) E
noncomputable def Binds (K:yg) (fd:FuncData) (ps:List Str) (ds:List Value):Prop:=
 ∀ (s:Shared) (us:List Value),K.In s.heap->(us++ds).length=ps.length->BindsTo s fd ⟨us,[]⟩ (ps.zip (us++ds))
theorem Binds.all {K:yg} {fd:FuncData} (h:∀ us:List Value,us.length=ps.length->bindArgs fd ⟨us,[]⟩=pure (ps.zip us)):Binds K fd ps []:=fun s us _ hl=>by
 rw [Yr] at hl ⊢;exact .of_eq (h us hl)
noncomputable def qaz (CX:CXT) (X:Cx) (E:XK):Prop:=∀ (pins:List (Addr×Obj)) (σ:St) (H:Hp) (s:Shared) (e:Value) (s':Shared),Inv X pins σ H s->CX X.stack H s E e s'->X.xe e s'
section
variable {X:Cx} {CX:CXT} {k:Nat} {f C:Addr} {fd:FuncData} {ps:List Str} {sp:Sp} {dvs:List V} {ds:List Value} {E:XK} {x m:Str} {p pos apos:Pos} {e o:Expr} {es:List Expr} {ta:TE} {t:TA}
theorem qdn {Q:VK} (F:FnOk X.prog X.w X.K X.mg X.base CX k f fd ps sp) (hr:Room k X.A) (hb:Binds X.K fd ps ds) (hd:Vals dvs ds) (hx:qaz CX X E)
  (I:Inv X pins σ H s) (r:Vals vs us) (h:sp (vs++dvs) H Q E):wpAny (model X.prog X.w) X.A (call (.ref f) us) (EP X pins σ Q) X.xe s:=by
 have r2:Vals (vs++dvs) (us++ds):=r.append hd;have hl:(us++ds).length=ps.length:=by rw [<- r2.length];exact F.len _ _ _ _ h
 refine XX (kD (F.run X.A X.stack s H ⟨us,[]⟩ (us++ds) (vs++dvs) Q E hr I.env0 (hb s us I.kIn hl) r2 h) fun r s' hq=>?_)
 cases r with
 | error e=>exact hx pins σ H s e s' I hq
 | ok fl =>
  cases fl with
  | ret u=>exact I.after hq
  | next=>exact False.elim hq
  | brk=>exact False.elim hq
  | cont=>exact False.elim hq
theorem pe_call (F:FnOk X.prog X.w X.K X.mg X.base CX k f fd ps sp) (hr:Room k X.A) (hg:Gl X x) (hm:X.mg x=some (.ref f)) (hk:PySem.W.keepIn X.K (.ref f)=true) (hb:Binds X.K fd ps ds) (hd:Vals dvs ds) (hx:qaz CX X E)
  (ha:PA X (e::es) t) (hdb:(x==("__debug__":Str))=false:=by decide) (he:starEach (e::es) X.env=(false,eval e X.env)::starEach es X.env:=by rfl) (hpl:(backTo pos (starEach es X.env)).any (·.1)=false:=by rfl) :
  PE X (.Call (.Name x p) (e::es) [] pos) (qeH sp dvs E t):=by
 intro pins s σ H Q I h;refine Xg (qck I hg hm ?_ hdb);refine XY (h₀:=X.base) I.ok.mod.kin hk (thn (ha pos pins s σ H _ I h) fun us s1 ⟨vs,H1,I1,r,q⟩=>⟨I1.kIn,?_⟩) he hpl;exact qdn F hr hb hd hx I1 r q
theorem pe_meth (he:PE X o ta) (c:Cls X.K C) (hm:Meth X.K C m f) (F:FnOk X.prog X.w X.K X.mg X.base CX k f fd ps sp) (hr:Room k X.A) (hb:Binds X.K fd ps ds) (hd:Vals dvs ds) (hx:qaz CX X E) (ha:PA X (e::es) t)
  (hst:starEach (e::es) X.env=(false,eval e X.env)::starEach es X.env:=by rfl) (hpl:(backTo pos (starEach es X.env)).any (·.1)=false:=by rfl)
  (ht:eval (.Call (.Attribute o m apos) (e::es) [] pos) X.env=(do
   let ov <- eval o X.env
   standAt apos.atName
   let (f,first) <- holding [ov] (getMethod ov m pl)
   callWith pos f first (backTo pos (starEach (e::es) X.env)) (backToKw pos (keywordEach [] X.env))):=by rfl) :
  PE X (.Call (.Attribute o m apos) (e::es) [] pos) (qdm C m sp dvs E ta t):=by
 intro pins s σ H Q I h;refine PySem.W.methodCall_KW (pl:=pl) (thn (he pins s σ H _ I h) fun u s1 ⟨x,H1,I1,rx,a,dx,fs,ex,ea,l,q⟩=>?_) ht;subst ex;obtain rfl:u=Value.ref a:=rx;refine qbf I1 ea c hm l ?_;refine XY (first:=[.ref a]) (h₀:=X.base) I.ok.mod.kin hm.kp (thn (ha pos pins s1 σ H1 _ I1 q) fun us s2 ⟨vs,H2,I2,r,q2⟩=>⟨I2.kIn,?_⟩) hst hpl;exact qdn (us:=.ref a::us) (vs:=.ref a::vs) F hr hb hd hx I2 (.cons rfl r) q2
theorem pe_meth0 (he:PE X o ta) (c:Cls X.K C) (hm:Meth X.K C m f) (F:FnOk X.prog X.w X.K X.mg X.base CX k f fd ps sp) (hr:Room k X.A) (hb:Binds X.K fd ps ds) (hd:Vals dvs ds) (hx:qaz CX X E)
  (ht:eval (.Call (.Attribute o m apos) [] [] pos) X.env=(do
   let ov <- eval o X.env
   standAt apos.atName
   let (f,first) <- holding [ov] (getMethod ov m pl)
   callWith pos f first (backTo pos (starEach [] X.env)) (backToKw pos (keywordEach [] X.env))):=by rfl) :
  PE X (.Call (.Attribute o m apos) [] [] pos) (qdm C m sp dvs E ta qfv):=by
 intro pins s σ H Q I h;refine PySem.W.methodCall_KW (pl:=pl) (thn (he pins s σ H _ I h) fun u s1 ⟨x,H1,I1,rx,a,dx,fs,ex,ea,l,q⟩=>?_) ht;subst ex;obtain rfl:u=Value.ref a:=rx;refine qbf I1 ea c hm l ?_;exact PySem.W.callWith_K0 (first:=[.ref a]) I1.kIn hm.kp (qdn (us:=[.ref a]) (vs:=[.ref a]) F hr hb hd hx I1 (.cons rfl .nil) q)
structure Mk (K:yg) (C f:Addr):Prop where
 makes:PySem.W.makesIn K C=true
 init:PySem.W.findIn K (.ref C) "__init__"=some (some (.ref f))
 fn:PySem.W.isFn K (.ref f)=true
 kp:PySem.W.keepIn K (.ref C)=true
theorem run_make {Q:VK} (M:Mk X.K C f) (F:FnOk X.prog X.w X.K X.mg X.base CX k f fd ps sp) (hr:Room (k + 1) X.A) (hb:Binds X.K fd ps ds) (hd:Vals dvs ds)
  (hx:qaz CX X E) (I:Inv X pins σ H s) (r:Vals vs us)
  (h:∀ x dx,H x=none->H dx=none->dx≠x->sp (.ref x::(vs++dvs)) (upd (upd H dx (.own x)) x (.ins C dx [])) (fun v H2=>v=.non/\Q (.ref x) H2) E) :
  wpAny (model X.prog X.w) X.A (call (.ref C) us) (EP X pins σ Q) X.xe s:=by
 have hq:=h (s.heap.objs.size + 1) s.heap.objs.size (I.hok.fresh (xW _)) (I.hok.fresh (yh _)) (yF (Xu _));have I2:=Inv.made (C:=C) I;have r2:Vals (V.ref (s.heap.objs.size + 1)::(vs++dvs)) (Value.ref (s.heap.objs.size + 1)::(us++ds)):=.cons rfl (r.append hd)
 have hl:(Value.ref (s.heap.objs.size + 1)::us++ds).length=ps.length:=by
  have e:=r2.length;rw [F.len _ _ _ _ hq] at e;exact e.symm
 refine XX (make_map (f:=f) I.kIn M.makes M.init (Ym.mp M.fn) (kD (F.run _ X.stack _ _ ⟨Value.ref (s.heap.objs.size + 1)::us,[]⟩ (Value.ref (s.heap.objs.size + 1)::(us++ds)) _ _ E (hr.make C us [])
  (I2.env0.make C us []) (hb _ (Value.ref (s.heap.objs.size + 1)::us) I2.kIn hl) r2 hq) fun r s' hq'=>?_))
 cases r with
 | error e=>exact hx pins σ _ _ e s' I2 hq'
 | ok fl =>
  cases fl with
  | ret u =>
   obtain ⟨v,H',I3,rv,ev,q3⟩:=I2.after hq';subst ev;exact ⟨rv,⟨V.ref (s.heap.objs.size + 1),H',I3,rfl,q3⟩⟩
  | next=>exact False.elim hq'
  | brk=>exact False.elim hq'
  | cont=>exact False.elim hq'
theorem pe_make (M:Mk X.K C f) (F:FnOk X.prog X.w X.K X.mg X.base CX k f fd ps sp) (hr:Room (k + 1) X.A) (hg:Gl X x) (hm:X.mg x=some (.ref C)) (hb:Binds X.K fd ps ds) (hd:Vals dvs ds) (hx:qaz CX X E)
  (ha:PA X (e::es) t) (hdb:(x==("__debug__":Str))=false:=by decide) (he:starEach (e::es) X.env=(false,eval e X.env)::starEach es X.env:=by rfl) (hpl:(backTo pos (starEach es X.env)).any (·.1)=false:=by rfl) :
  PE X (.Call (.Name x p) (e::es) [] pos) (qeI C sp dvs E t):=by
 intro pins s σ H Q I h;refine Xg (qck I hg hm ?_ hdb);refine XY (h₀:=X.base) I.ok.mod.kin M.kp (thn (ha pos pins s σ H _ I h) fun us s1 ⟨vs,H1,I1,r,q⟩=>⟨I1.kIn,?_⟩) he hpl;exact run_make M F hr hb hd hx I1 r q
end
section
variable {X:Cx} {CX:CXT} {k:Nat} {f C:Addr} {fd:FuncData} {ps ks:List Str} {sp:Sp} {E:XK} {x m:Str} {p pos apos kpos:Pos} {e o:Expr} {es:List Expr} {kws:List Keyword} {te ta:TE} {t tk:TA} {nm:Option Str}
structure KBinds (K:yg) (fd:FuncData) (ps ks:List Str) (g:List Value->List Value->List Value) (gV:List V->List V->List V):Prop where
 to:∀ (s:Shared) (us ws:List Value),K.In s.heap->(g us ws).length=ps.length->BindsTo s fd ⟨us,ks.zip ws⟩ (ps.zip (g us ws))
 rel:∀ {vs:List V} {us:List Value} {zs:List V} {ws:List Value},Vals vs us->Vals zs ws->Vals (gV vs zs) (g us ws)
variable {g:List Value->List Value->List Value} {gV:List V->List V->List V}
end
structure FnScope (N P:List Str) (sc:Scope):Prop where
 kind:sc.kind=.function
 co:sc.isCoroutine=false
 gen:sc.isGenerator=false
 nd:N.Nodup
 pre:N.take P.length=P
 par:∀ x∈P,sc.names.lookup x=some .local\/sc.names.lookup x=some .cell
 nofree:∀ y∈sc.names,y.2≠.free
theorem fS {P:List Str} (a:sc.kind=.function:=by rfl) (b:sc.isCoroutine=false:=by rfl) (c:sc.isGenerator=false:=by rfl) (d:N.Nodup:=by decide +kernel) (e:N.take P.length=P:=by rfl) (f:∀ x∈P,sc.names.lookup x=some .local\/sc.names.lookup x=some .cell:=by decide +kernel) (g:∀ y∈sc.names,y.2≠.free:=by decide +kernel):FnScope N P sc:=⟨a,b,c,d,e,f,g⟩
theorem qbR:∀ {binds:List (Str×Value)} {m:Str->Option Value},(∀ v,(x,v)∉binds)->bindL kindOf binds m x=m x
 | [],_,_=>rfl
 | (n,v)::r,m,h=>by
  unfold bindL;rw [qbR fun w hw=>h w (yA _ hw)];split
  ·have:x≠n:=by rintro rfl;exact h v yL
   simp [this]
  ·rfl
theorem qbS:∀ {binds:List (Str×Value)} {m:Str->Option Value},(∀ v,(x,v)∉binds)->bindC kindOf binds m x=m x
 | [],_,_=>rfl
 | (n,v)::r,m,h=>by
  unfold bindC;rw [qbS fun w hw=>h w (yA _ hw)];split
  ·rfl
  ·have:x≠n:=by rintro rfl;exact h v yL
   simp [this]
theorem qbT {v:Value}:∀ {P:List Str} {vs:List Value} {i:Nat} {m:Str->Option Value},P.Nodup->P[i]?=some x->vs[i]?=some v->kindOf x=some .local ->
  bindL kindOf (P.zip vs) m x=some v
 | [],_,_,_,_,h,_,_=>by simp at h
 | _::_,[],_,_,_,_,h,_=>by simp at h
 | p::P,w::vs,0,m,nd,h1,h2,hk=>by
  simp at h1 h2;subst h1;subst h2;show bindL kindOf ((p,w)::P.zip vs) m p=_;unfold bindL;rw [qbR fun v hv=>(yo.mp nd).1 (kH hv).1,yE hk];simp
 | p::P,w::vs,i + 1,m,nd,h1,h2,hk=>by
  show bindL kindOf ((p,w)::P.zip vs) m x=_;unfold bindL;exact qbT (i:=i) (yo.mp nd).2 (by simpa using h1) (by simpa using h2) hk
theorem qbU {v:Value}:∀ {P:List Str} {vs:List Value} {i:Nat} {m:Str->Option Value},P.Nodup->P[i]?=some x->vs[i]?=some v->kindOf x≠some .local ->
  bindC kindOf (P.zip vs) m x=some v
 | [],_,_,_,_,h,_,_=>by simp at h
 | _::_,[],_,_,_,_,h,_=>by simp at h
 | p::P,w::vs,0,m,nd,h1,h2,hk=>by
  simp at h1 h2;subst h1;subst h2;show bindC kindOf ((p,w)::P.zip vs) m p=_;unfold bindC;rw [qbS fun v hv=>(yo.mp nd).1 (kH hv).1,yy hk];simp
 | p::P,w::vs,i + 1,m,nd,h1,h2,hk=>by
  show bindC kindOf ((p,w)::P.zip vs) m x=_;unfold bindC;exact qbU (i:=i) (yo.mp nd).2 (by simpa using h1) (by simpa using h2) hk
noncomputable def start (N:List Str) (vs:List V):St:=vs.map some++List.replicate (N.length - vs.length) none
noncomputable def qeW (CX:CXT) (P:Program) (w:World) (K:yg) (mg:Str->Option Value) (base:Heap) (N:List Str) (qual:Str) (scope:Scope) (f:Addr) (cd:Value) (A:Around) (outer:List Env) (s:Shared) (H:Hp) (E:XK):Cx where
 prog:=P
 w:=w
 K:=K
 mg:=mg
 base:=base
 A:=A.deeper (envOfC qual scope s.heap.objs.size f cd)
 N:=N
 s₀:=s
 H₀:=H
 env:=envOfC qual scope s.heap.objs.size f cd
 outer:=outer
 stack:=envOfC qual scope s.heap.objs.size f cd::outer
 ex:=[]
 calm:=true
 fn:=fun _=>true
 pn:=[]
 xe:=fun e s'=>wpAny (model P w) (A.deeper (envOfC qual scope s.heap.objs.size f cd)) (leaving (envOfC qual scope s.heap.objs.size f cd) e) (fun _ s''=>CX outer H s E e s'') (fun e' s''=>CX outer H s E e' s'') s'
theorem qcN (h:sc.names.lookup x=some .cell):∃ c,(cellsFrom n sc.names []).lookup x=some c:=by
 have q:=PySem.W.cellsFrom_some sc.names n [] (.inl h);exact YW.mp q
theorem inv_start {K:yg} {f:Addr} {cd:Value} {s1:Shared} {E:XK}
  (S:FnScope N ps scope) (hd:A.handled=none) (e0:Env0 P w K mg base A outer s H) (hl:vs.length=ps.length) (r:Vals vs us)
  (x:InCallC s s.heap.objs.size (bindL (envOfC qual scope s.heap.objs.size f cd).kindOf (ps.zip us) fun _=>none) (cellsFrom (s.heap.objs.size + 1) scope.names []) (bindC (envOfC qual scope s.heap.objs.size f cd).kindOf (ps.zip us) fun _=>none) s1) :
  Inv (qeW CX P w K mg base N qual scope f cd A outer s H E) [] (start N vs) H s1:=by
 have hpl:ps.length<=N.length:=by have:=congrArg List.length S.pre;rw [yR] at this;omega
 obtain ⟨h1,tk,rfl,hk⟩:=x.done;have noA:∀ b:Addr,b∉(qeW CX P w K mg base N qual scope f cd A outer s H E).ex:=fun b z=>absurd (show b∈([]:List Addr) from z) (by simp);refine ⟨⟨e0.mod,S.kind,rfl,rfl,yh _,fun y z c h1 h2=>?_,fun y hy=>?_,fun y c _ h=>?_,fun _=>hd,Around.frames_deeper e0.frames,.inr ⟨rfl,rfl⟩,fun b z=>absurd z (noA b),e0.bs,e0.bsz,fun b _ _=>noA b,fun b z=>absurd z (noA b),e0.funs,e0.frf⟩,
  rfl,e0.bare,Un.kept hk,⟨_,x.toInCall.ns,fun i y v h1 h2 h3=>?_⟩,fun y c h=>⟨_,x.cell y c h⟩,e0.hok.fresh (yh _),fun y c h=>?_,fun p hp=>absurd (show p∈([]:List (Addr×Obj)) from hp) (by simp),e0.hok.kept hk,?_⟩
 ·exact name_of_addr x.apart (xr h1) (xr h2)
 ·have hy:scope.names.lookup y=some .cell\/scope.names.lookup y=some .free:=hy;rcases hy with hy | hy
  ·exact qcN hy
  ·exact absurd rfl (S.nofree _ (xr hy))
 ·exact yZ (x.above y c (xr h))
 ·have hi:i < vs.length:=by
   unfold start at h2;by_cases hi:i < vs.length
   ·exact hi
   ·rw [yD (by simpa using hi)] at h2;rw [Xi] at h2;split at h2<;>cases h2
  have ha:vs[i]?=some v:=by
   unfold start at h2;rw [yS (by simpa using hi),yd] at h2
   cases e:vs[i]? with
   | none=>rw [e] at h2;cases h2
   | some a=>rw [e] at h2;cases h2;rfl
  obtain ⟨u,hu,rv⟩:=r.get ha
  have hp:ps[i]?=some y:=by
   rw [<- S.pre,List.getElem?_take_of_lt (by omega)];exact h1
  have ndP:ps.Nodup:=by rw [<- S.pre];exact S.nd.sublist (xR _ _)
  refine ⟨u,rv,?_⟩;rcases S.par y (ye hp) with k | k
  ·exact .inl ⟨k,qbT ndP hp hu k⟩
  ·obtain ⟨c,e⟩:=qcN (n:=s.heap.objs.size + 1) k;refine .inr ⟨.inl k,c,e,?_⟩;have q:=x.cell y c e;rw [qbU ndP hp hu (by show scope.names.lookup y≠_;rw [k];decide)] at q;exact q
 ·exact e0.hok.fresh (yZ (x.above y c (xr h)))
 ·unfold start;show _=N.length;rw [yt,ya,YH];omega
theorem fn_of {K:yg} {k:Nat} {f:Addr} {name:Str} {params:Arguments} {dV kV doc pm cdv ct oc:Value} {an od:Option Addr}
  {osl:Array (Option Value)} {sp:Sp} (lk:K.lookup f=some ⟨oc,od,.func (PySem.W.fnOf name qual params body scope dV kV doc pm an cdv ct),osl⟩) (hcd:PySem.W.codeIn K cdv qual=true) (S:FnScope N ps scope)
  (len:∀ vs H Q E,sp vs H Q E->vs.length=ps.length)
  (hbody:∀ (A:Around) (outer:List Env) (s:Shared) (H:Hp) (vs:List V) (Q:VK) (E:XK),Room k (A.deeper (envOfC qual scope s.heap.objs.size f cdv))->sp vs H Q E ->
   ∃ t,PSs (qeW CX P w K mg base N qual scope f cdv A outer s H E) body t/\t { nx:=fun _ H'=>Q .non H',rt:=Q } (start N vs) H) :
  FnOk P w K mg base CX (k + 1) f (PySem.W.fnOf name qual params body scope dV kV doc pm an cdv ct) ps sp:=by
 refine ⟨len,fun A outer s H args us vs Q E hr e0 hb r hsp=>?_⟩;have hl:=len _ _ _ _ hsp;have KX:K.In s.heap:=e0.mod.kin.keeps fun b o e=>(e0.bs b o e).1;have lim:s.heap.NoLimit:=e0.mod.nolimit.keeps fun b o e=>(e0.bs b o e).1
 have hkind:∀ y∈ps.zip us,scope.names.lookup y.1=some .local\/(scope.names.lookup y.1=some .cell/\((cellsFrom (s.heap.objs.size + 1) scope.names []).lookup y.1).isSome=true):=fun ⟨n,v⟩ hy=>by
  rcases S.par n (kH hy).1 with q | q
  ·exact .inl q
  ·exact .inr ⟨q,PySem.W.cellsFrom_some _ _ _ (.inl q)⟩
 refine codeAny_call_function hr.depth (KX _ _ lk) rfl S.co S.gen rfl (PySem.W.codeRec_of KX hcd) (hb _ _ _ _ ?_);refine wpAny_newFunctionEnv_cells S.kind hkind fun env he s1 x=>?_;subst he;refine ⟨lim.keeps x.toInCall.keep,codeAny_func ?_⟩;obtain ⟨t,ht,hq⟩:=hbody A outer s H vs Q E (hr.deeper _) hsp;have I:Inv (qeW CX P w K mg base N qual scope f cdv A outer s H E) [] (start N vs) H s1:=inv_start S hr.hd e0 hl r x;refine YQ (ht [] s1 (start N vs) H _ I hq) (fun fl s' hs=>?_) fun e s' hs=>hs
 have fin:∀ {σ':St} {H':Hp} {v:V} {u:Value},Inv (qeW CX P w K mg base N qual scope f cdv A outer s H E) [] σ' H' s'->RelV v u->Q v H'->CE outer P w H s Q u s':=
  fun {σ' H' v u} J rv q=>⟨v,H',J.os,J.bare,J.base,J.hok,rv,q⟩
 cases fl with
 | ret u =>
  obtain ⟨v,σ',H',J,rv,q⟩:=hs;exact fin J rv q
 | next =>
  obtain ⟨σ',H',J,q⟩:=hs;exact fin (v:=V.non) (u:=Value.none) J rfl q
 | brk =>
  obtain ⟨_,_,_,q⟩:=hs;exact False.elim q
 | cont =>
  obtain ⟨_,_,_,q⟩:=hs;exact False.elim q
section
variable {X:Cx} {x:Str} {p pos:Pos} {e:Expr} {es:List Expr} {t:TA} {id T:String} {r:List V->Hp->VK->Prop}
noncomputable def tCB (r:List V->Hp->VK->Prop) (t:TA):TE:=fun σ H Q=>t σ H fun vs H1=>r vs H1 Q
theorem qk (hc:zi X (.builtin id) r) (hg:Gl X x) (hm:X.mg x=none) (hv:bootBuiltins x=some (.builtin id)) (ha:PA X (e::es) t) (hn:x≠"__name__":=by decide) (hdb:(x==("__debug__":Str))=false:=by decide)
  (he:starEach (e::es) X.env=(false,eval e X.env)::starEach es X.env:=by rfl) (hpl:(backTo pos (starEach es X.env)).any (·.1)=false:=by rfl):PE X (.Call (.Name x p) (e::es) [] pos) (tCB r t):=by
 intro pins s σ H Q I h;refine Xg (zw I hg hm hv ?_ hn hdb);exact PyProof.Rows.callWith_builtin1 (thn (ha pos pins s σ H _ I h) fun us s1 ⟨vs,H1,I1,r1,q1⟩=>hc pins s1 σ H1 vs us Q I1 r1 q1) he hpl
theorem qY (hc:zi X (.type T) r) (hg:Gl X x) (hm:X.mg x=none) (hv:bootBuiltins x=some (.type T)) (ha:PA X (e::es) t) (hn:x≠"__name__":=by decide) (hdb:(x==("__debug__":Str))=false:=by decide)
  (he:starEach (e::es) X.env=(false,eval e X.env)::starEach es X.env:=by rfl) (hpl:(backTo pos (starEach es X.env)).any (·.1)=false:=by rfl):PE X (.Call (.Name x p) (e::es) [] pos) (tCB r t):=by
 intro pins s σ H Q I h;refine Xg (zw I hg hm hv ?_ hn hdb);exact Yi (thn (ha pos pins s σ H _ I h) fun us s1 ⟨vs,H1,I1,r1,q1⟩=>hc pins s1 σ H1 vs us Q I1 r1 q1) he hpl
end
end L2
namespace HT
open PySem PyProof.Rows
variable {hi lo:Option Int} {sl:Addr} {vl vu:Value}
section
open PySem.SeqAt
open PySem.AutoSeq1 (wpAny_loadPart')
open PySem.MeetsSeq PySem.MeetsSeq2 PySem.MeetsSeq3
end
section
variable {prog:Program} {w:World} {A:Around} {E:Value->Shared->Prop} {s:Shared}
theorem cat_tup {t b:Addr} {vs ws:List Value} {Q:Value->Shared->Prop} (ht:IsTup s.heap t vs.toArray) (hb:IsTup s.heap b ws.toArray) (hv:vs≠[])
  (h1:ws=[]->Q (.ref t) s) (h2:ws≠[]->Q (.ref s.heap.objs.size) { s with heap:=s.heap.push { cls:=.type "tuple",data:=.seq (vs++ws).toArray } })
  (hsz:vs.length + ws.length<=sizeLine):wpAny (model prog w) A (binaryOp .Add (.ref t) (.ref b)) Q E s:=by
 obtain ⟨⟨cls,dd,data,sl⟩,ho,hc,n,hd⟩:=id ht;obtain ⟨⟨cls2,dd2,data2,sl2⟩,ho2,hc2,n2,hd2⟩:=id hb;simp only at hc hd hc2 hd2;subst hc hd hc2 hd2;have e:vs.toArray++ws.toArray=(vs++ws).toArray:=by simp
 by_cases hw:ws=[]
 ·exact concat_meets ⟨_,ho,rfl⟩ ⟨_,ho2,rfl⟩ noFill_tuple_add seq_tuple_add PySem.F.slot_tuple_add PySem.F.entry_tuple_add (PySem.F.args_tuple_add_2 _ _)
   (tuple_addW1 t b vs.toArray ws.toArray n n2 dd dd2 sl sl2 (by simpa using hv) (by simp [hw])) ⟨ho,ho2,h1 hw⟩
 ·refine concat_meets ⟨_,ho,rfl⟩ ⟨_,ho2,rfl⟩ noFill_tuple_add seq_tuple_add PySem.F.slot_tuple_add PySem.F.entry_tuple_add (PySem.F.args_tuple_add_2 _ _)
   (tuple_addW2 t b vs.toArray ws.toArray n n2 dd dd2 sl sl2 (by simpa using hv) (by simpa using hw) (by rw [yw,yw];exact hsz)) ⟨ho,ho2,?_⟩
  rw [e];exact h2 hw
noncomputable def sIx (n d:Nat):Option Int->Nat
 | none=>d
 | some v=>if v < 0 then (v + (n:Int)).toNat else min v.toNat n
theorem sIx_none (n d:Nat):sIx n d none=d:=rfl
theorem sIx_nat (n d k:Nat):sIx n d (some (k:Int))=min k n:=by
 show (if (k:Int) < 0 then ((k:Int) + (n:Int)).toNat else min (k:Int).toNat n)=min k n;rw [yy (by omega),Yb]
theorem sIx_le (n d:Nat) (hd:d<=n) (o:Option Int):sIx n d o<=n:=by
 cases o with
 | none=>exact hd
 | some v =>
  show (if v < 0 then (v + (n:Int)).toNat else min v.toNat n)<=n;by_cases hv:v < 0
  ·rw [yE hv];omega
  ·rw [yy hv];exact Nat.min_le_right _ _
theorem qdo (v:Int) (n d:Nat):(if v < 0 then max (v + (n:Int)) 0 else min v (n:Int))=((sIx n d (some v):Nat):Int):=by
 show (if v < 0 then max (v + (n:Int)) 0 else min v (n:Int))=(((if v < 0 then (v + (n:Int)).toNat else min v.toNat n):Nat):Int);by_cases hv:v < 0
 ·simp only [yE hv];omega
 ·simp only [yy hv];omega
theorem adjust_gen (lo hi:Option Int) (n:Nat):Builtin.Slice.sliceAdjust lo hi 1 (n:Int)=(((sIx n 0 lo:Nat):Int),((sIx n n hi:Nat):Int)):=by
 have h1:¬ ((1:Int) < 0):=by omega
 unfold Builtin.Slice.sliceAdjust;simp only [h1,xx];refine xy ?_ ?_
 ·cases lo with
  | none=>rfl
  | some v=>exact qdo v n 0
 ·cases hi with
  | none=>rfl
  | some v=>exact qdo v n n
theorem places_gen (i j:Nat):Builtin.Slice.slicePlaces (i:Int) (j:Int) 1=j - i:=by
 unfold Builtin.Slice.slicePlaces;have h1:(1:Int) > 0:=by omega
 simp only [h1,Xm,Int.ediv_one];split<;>omega
theorem qaw {v:Value} {o:Option Int} {Q:Option Int->Shared->Prop} (p:IsPart v o) (h:Q o s):wpAny (model prog w) A (Builtin.Slice.slicePartIndex v) Q E s:=by
 cases p with
 | none=>exact XZ h
 | int i t=>exact slicePart_int h
theorem sliceApplied_gen {n:Nat} {Q:Int×Int×Nat->Shared->Prop} (hs:s.heap.IsSliceOf sl vl vu .none) (pl:IsPart vl lo) (pu:IsPart vu hi)
  (h:Q (((sIx n 0 lo:Nat):Int),1,sIx n n hi - sIx n 0 lo) s):wpAny (model prog w) A (Builtin.Slice.sliceApplied (.ref sl) (pure (n:Int))) Q E s:=by
 obtain ⟨os,hos,hcs,hds⟩:=id hs;unfold Builtin.Slice.sliceApplied Builtin.Slice.sliceFields;refine yr (yr (YZ hos hds (x:=vl) rfl (yr (YZ hos hds (x:=vu) rfl (yr (YZ hos hds (x:=.none) rfl (yu ?_)))))));refine yr (XZ ?_);show wpAny _ _ (if ((1:Int)==0)=true then _ else _) _ _ s;rw [yy (by decide)];refine yr (qaw pl (yr (qaw pu (yr (yu ?_)))));show wpAny _ _ (match Builtin.Slice.sliceAdjust lo hi 1 (n:Int) with | (lo,hi)=>pure (lo,(1:Int),Builtin.Slice.slicePlaces lo hi 1)) _ _ s;rw [adjust_gen lo hi n];show wpAny _ _ (pure (((sIx n 0 lo:Nat):Int),(1:Int),Builtin.Slice.slicePlaces ((sIx n 0 lo:Nat):Int) ((sIx n n hi:Nat):Int) 1)) _ _ s;rw [places_gen];exact yu h
theorem pick_gen (xs:Array Value) (i k:Nat):((List.range k).filterMap fun (m:Nat)=>xs[((i:Int) + (m:Int) * 1).toNat]?).toArray=((xs.toList.drop i).take k).toArray:=by
 have e:(fun (m:Nat)=>xs[((i:Int) + (m:Int) * 1).toNat]?)=fun m=>xs[i + m]?:=by
  funext m;have:((i:Int) + (m:Int) * 1).toNat=i + m:=by omega
  rw [this]
 rw [e];have:=pick_run xs i k;rw [List.filterMap_map] at this;have e2:((fun x=>xs[x]?) ∘ fun x=>i + x)=fun m=>xs[i + m]?:=rfl;rw [e2] at this;rw [this]
theorem getItem_tuple_cut {t:Addr} {items:Array Value} {Q:Value->Shared->Prop} (ht:IsTup s.heap t items) (hs:s.heap.IsSliceOf sl vl vu .none) (pl:IsPart vl lo) (pu:IsPart vu hi)
  (hw:¬ (sIx items.size 0 lo=0/\sIx items.size items.size hi=items.size))
  (h:Q (.ref s.heap.objs.size) { s with heap:=s.heap.push { cls:=.type "tuple",data:=.seq ((items.toList.drop (sIx items.size 0 lo)).take (sIx items.size items.size hi - sIx items.size 0 lo)).toArray } })
  (hsz:items.size<=sizeLine):wpAny (model prog w) A (getItem (.ref t) (.ref sl)) Q E s:=by
 have htake:sizeOk (.seq ((items.toList.drop (sIx items.size 0 lo)).take (sIx items.size items.size hi - sIx items.size 0 lo)).toArray):=by
  show ((items.toList.drop (sIx items.size 0 lo)).take (sIx items.size items.size hi - sIx items.size 0 lo)).toArray.size<=sizeLine;rw [yw,yR,Xv,Y4];omega
 have hj:sIx items.size items.size hi<=items.size:=sIx_le _ _ (yh _) hi;obtain ⟨os,hos,hcs,hds⟩:=id hs;have hTs:s.TypeIs (.ref sl) "slice":=⟨os,hos,hcs⟩;unfold getItem
 try with_reducible refine Yg ?_
 first | refine yr (yu ?_) | skip
 refine yr (wpAny_sequenceKey ht.typeIs (by decide) ?_);refine yr (xz (name:=Str.ofString "__getitem__") ht.typeIs Yw
  (xA Yw ht.typeIs entry_tuple_getitem ?_ (args_tuple_getitem _ _)))
 show wpAny _ _ (Builtin.Tuple.tupleItemsOf (.ref t)>>=_) _ _ s;refine yr (tupleItemsOf_ ht ?_);refine yr (wpAny_typeOf hTs ?_);rw [yE (by decide)];refine yr (sliceApplied_gen hs pl pu ?_)
 have hno:¬ ((((sIx items.size 0 lo:Nat):Int)==0&&(1:Int)==1&&(sIx items.size items.size hi - sIx items.size 0 lo)==items.size)=true):=by
  intro q;rw [yT,yT] at q;have q1:((sIx items.size 0 lo:Nat):Int)=0:=eq_of_beq q.1.1;have q2:sIx items.size items.size hi - sIx items.size 0 lo=items.size:=eq_of_beq q.2;exact hw ⟨by omega,by omega⟩
 show wpAny _ _ (if (((sIx items.size 0 lo:Nat):Int)==0&&(1:Int)==1&&(sIx items.size items.size hi - sIx items.size 0 lo)==items.size)=true then _ else _) _ _ s;rw [yy hno,pick_gen]
 first
  | exact yr (m:=Builtin.Tuple.tupleExact _) (YG (yu ⟨_,rfl,yu h⟩) htake)
  | exact yr (m:=Builtin.Tuple.tupleExact _) (YG (yr (yu (yu ⟨_,rfl,yu h⟩))) htake)
  | exact yr (yr (m:=Builtin.Tuple.tupleExact _) (YG (yu (yu ⟨_,rfl,yu h⟩)) htake))
  | exact yr (yr (m:=Builtin.Tuple.tupleExact _) (YG (yu ⟨_,rfl,yu h⟩) htake))
end
end HT
namespace L2
open PySem PySem.Spec PyProof.Rows
variable {A:Around} {H H':Hp} {P:Program} {X:Cx} {a b p:Addr} {h':Heap} {i:Int} {its its' us:List Value} {j n t':Nat} {kvs:List (List Key×V)} {o:Option V} {pins:List (Addr×Obj)} {r:R2} {s:Shared} {u v:Value} {w:World} {x y:V} {xs:List V} {α:Type} {σ:St}
noncomputable abbrev TO:=St->Hp->(Option Int->Hp->Prop)->Prop
noncomputable def PO (X:Cx) (e:Option Expr) (t:TO):Prop:=
 ∀ (pins:List (Addr×Obj)) (s:Shared) (σ:St) (H:Hp) (Q:Option Int->Hp->Prop),Inv X pins σ H s->t σ H Q ->
  wpAny (model X.prog X.w) X.A (evalPart e X.env) (fun u s'=>∃ o H',Inv X pins σ H' s'/\IsPart u o/\Q o H') X.xe s
noncomputable def qdp:TO:=fun _ H Q=>Q none H
noncomputable def qe8 (t:TE):TO:=fun σ H Q=>t σ H fun x H1=>∃ i,x=.int i/\Q (some i) H1
section
variable {X:Cx} {e:Expr} {te:TE} {lo hi:Option Expr} {tl th:TO} {pos p2:Pos}
theorem zy:PO X none qdp:=by
 intro pins s σ H Q I h;rw [kj];exact yu ⟨none,H,I,.none,h⟩
theorem jI (h:PE X e te):PO X (some e) (qe8 te):=by
 intro pins s σ H Q I hw;rw [evalPart_some];refine thn (h pins s σ H _ I hw) fun u s1 ⟨x,H1,I1,r1,q1⟩=>?_;obtain ⟨i,rfl,q⟩:=q1;obtain ⟨t,rfl⟩:=r1;exact ⟨some i,H1,I1,.int i t,q⟩
noncomputable def SlR (X:Cx) (r:V->Option Int->Option Int->Hp->VK->Prop):Prop:=
 ∀ (pins:List (Addr×Obj)) (s:Shared) (σ:St) (H:Hp) (x:V) (v vl vu:Value) (lo hi:Option Int) (sl:Addr) (Q:VK),Inv X pins σ H s->RelV x v->s.heap.IsSliceOf sl vl vu .none->IsPart vl lo->IsPart vu hi->r x lo hi H Q ->
  ∃ T id,typeLookup (.type T) "__getitem__"=pure (some (.builtin id))/\s.TypeIs v T/\wpAny (model X.prog X.w) X.A (getItem v (.ref sl)) (EP X pins σ Q) X.xe s
noncomputable def tSl (r:V->Option Int->Option Int->Hp->VK->Prop) (te:TE) (tl th:TO):TE:=fun σ H Q=>te σ H fun x H1=>tl σ H1 fun l H2=>th σ H2 fun u H3=>r x l u H3 Q
theorem jZ {r:V->Option Int->Option Int->Hp->VK->Prop} (hr:SlR X r) (he:PE X e te) (hl:PO X lo tl) (hu:PO X hi th):PE X (.Subscript e (.Slice lo hi none p2) pos) (tSl r te tl th):=by
 intro pins s σ H Q I h;refine Subscript_ (thn (he pins s σ H _ I h) fun v s1 ⟨x,H1,I1,r1,q1⟩=>?_);refine wpAny_Slice (thn (hl pins s1 σ H1 _ I1 q1) fun vl s2 ⟨l,H2,I2,pl,q2⟩=>thn (hu pins s2 σ H2 _ I2 q2) fun vu s3 ⟨u,H3,I3,pu,q3⟩=>?_);rw [kj];refine yu ?_;have I4:Inv X pins σ H3 { s3 with heap:=s3.heap.push { cls:=.type "slice",data:=.fields #[vl,vu,.none] } }:=I3.kept (t':=s3.toks) fun b ob q=>yv _ q;obtain ⟨T,id,hT,ht,hg⟩:=hr pins { s3 with heap:=s3.heap.push { cls:=.type "slice",data:=.fields #[vl,vu,.none] } } σ H3 x v vl vu l u s3.heap.objs.size Q I4 r1 (X0 ..) pl pu q3;show wpAny (model X.prog X.w) X.A (subscriptTail e (.Slice lo hi none p2) v (.ref s3.heap.objs.size)) (EP X pins σ Q) X.xe { s3 with heap:=s3.heap.push { cls:=.type "slice",data:=.fields #[vl,vu,.none] } };exact tail_any (ops:=[.ref s3.heap.objs.size,v]) ht hT hg (by with_unfolding_all rfl)
noncomputable def qbG (xs:List V) (lo hi:Option Int):List V:=(xs.drop (HT.sIx xs.length 0 lo)).take (HT.sIx xs.length xs.length hi - HT.sIx xs.length 0 lo)
theorem qaT (xs:List V) (lo hi:Option Int):(qbG xs lo hi).length<=xs.length:=by
 unfold qbG;rw [yR,Xv];omega
noncomputable def qfW (K:yg):V->Option Int->Option Int->Hp->VK->Prop:=fun x lo hi H Q=>∃ a xs,x=.ref a/\SqT K H a xs /\
 ¬ (HT.sIx xs.length 0 lo=0/\HT.sIx xs.length xs.length hi=xs.length)/\∀ p,H p=none->Q (.ref p) (upd H p (.tup (qbG xs lo hi)))
theorem sl_tup:SlR X (qfW X.K):=by
 intro pins s σ H x v vl vu lo hi sl Q I rx hs pl pu h;obtain ⟨a,xs,rfl,hx,hw,q⟩:=h;cases rx;obtain ⟨its,r,ht,hz⟩:=I.tuple hx;have hlen:its.toArray.size=xs.length:=by rw [yw];exact r.length.symm
 refine ⟨"tuple",_,Yw.lookup,ht.typeIs,?_⟩;refine HT.getItem_tuple_cut ht hs pl pu (by rw [hlen];exact hw) ?_ (by rw [hlen];exact hz);rw [hlen];refine ⟨.ref s.heap.objs.size,_,I.laid (t':=s.toks) (o:=.tup (qbG xs lo hi)) (fun b ob q=>yv _ q) (yh _) ?_,rfl,q _ (I.hok.fresh (yh _))⟩;exact ⟨yi (qaT xs lo hi) hz,_,(r.drop (HT.sIx xs.length 0 lo)).take (HT.sIx xs.length xs.length hi - HT.sIx xs.length 0 lo),IsTup.new _ _⟩
noncomputable def qe9 (K:yg):R2:=fun x y H Q=>∃ a b xs ys,x=.ref a/\y=.ref b/\SqT K H a xs/\SqT K H b ys/\xs≠[]/\xs.length + ys.length<=sizeLine /\
 (ys=[]->Q (.ref a) H)/\(ys≠[]->∀ p,H p=none->Q (.ref p) (upd H p (.tup (xs++ys))))
theorem Vals.nil_iff (r:Vals xs us):us=[]↔xs=[]:=by
 cases r with
 | nil=>simp
 | cons _ _=>simp
theorem op_catT:OpR X (binaryOp .Add) (qe9 X.K):=by
 intro pins s σ H x y v u Q I rx ry h;obtain ⟨a,b,xs,ys,rfl,rfl,ha,hb,hx,hz,q1,q2⟩:=h;cases rx;cases ry;obtain ⟨its,r1,p1,_⟩:=I.tuple ha;obtain ⟨its2,r2,p2,_⟩:=I.tuple hb;refine HT.cat_tup p1 p2 (fun z=>hx (r1.nil_iff.mp z)) (fun z=>⟨.ref a,H,I,rfl,q1 (r2.nil_iff.mp z)⟩) (fun z=>?_) (by rw [<- r1.length,<- r2.length];exact hz);refine ⟨.ref s.heap.objs.size,_,I.laid (t':=s.toks) (o:=.tup (xs++ys)) (fun b ob q=>yv _ q) (yh _) ?_,rfl,q2 (fun w=>z (r2.nil_iff.mpr w)) _ (I.hok.fresh (yh _))⟩;exact ⟨by rw [yt];exact hz,_,r1.append r2,IsTup.new _ _⟩
end
noncomputable def ixN (n:Nat) (i:Int):Option Nat:=if 0<=i then (if i < n then some i.toNat else none) else if -(n:Int)<=i then some (i + n).toNat else none
noncomputable def atI {α:Type} (xs:List α) (i:Int):Option α:=(ixN xs.length i).bind fun j=>xs[j]?
theorem qdq (h:ixN n i=some j):seqIndex? i n=some j/\j < n/\-(n:Int)<=i/\i < n:=by
 unfold ixN at h;by_cases h0:0<=i
 ·rw [yE h0] at h;by_cases h1:i < n
  ·rw [yE h1] at h;have e:i.toNat=j:=ym h;exact ⟨by rw [seqIndex_of h0 h1,e],by omega,by omega,h1⟩
  ·rw [yy h1] at h;cases h
 ·rw [yy h0] at h;by_cases h1:-(n:Int)<=i
  ·rw [yE h1] at h;have e:(i + n).toNat=j:=ym h;exact ⟨by rw [seqIndex_neg (by omega) h1,e],by omega,h1,by omega⟩
  ·rw [yy h1] at h;cases h
theorem qcp {xs:List α} {v:α} (h:atI xs i=some v):∃ j,seqIndex? i xs.length=some j/\xs[j]?=some v/\j < xs.length/\-(xs.length:Int)<=i/\i < xs.length:=by
 unfold atI at h
 cases e:ixN xs.length i with
 | none=>rw [e] at h;cases h
 | some j =>
  rw [e] at h;obtain ⟨h1,h2,h3,h4⟩:=qdq e;exact ⟨j,h1,h,h2,h3,h4⟩
theorem qA {xs:List α} {v:α} (h:xs[j]?=some v):atI xs (j:Int)=some v:=by
 have hj:j < xs.length:=(yc.mp h).1
 have e:ixN xs.length (j:Int)=some j:=by
  unfold ixN;rw [yE (by omega),yE (by omega)];simp
 unfold atI;rw [e];exact h
theorem atI_last (xs:List α) (v:α):atI (xs++[v]) (-1)=some v:=by
 have hl:(xs++[v]).length=xs.length + 1:=by simp
 have e:ixN (xs++[v]).length (-1)=some xs.length:=by
  unfold ixN;rw [hl,yy (by decide),yE (by omega)]
  congr 1
  omega
 unfold atI;rw [e];show (xs++[v])[xs.length]?=some v;simp
noncomputable def PlainIx (b:Expr):Prop:=∀ o i,subscripted b false o i=operate [o,i] (getItem o i)
noncomputable def IxR (X:Cx) (r:R2):Prop:=
 ∀ (value slice:Expr) (pins:List (Addr×Obj)) (s:Shared) (σ:St) (H:Hp) (x y:V) (v u:Value) (Q:VK),Inv X pins σ H s->RelV x v->RelV y u->r x y H Q ->
  subscripted slice false v u=operate [v,u] (getItem v u)->wpAny (model X.prog X.w) X.A (subscriptTail value slice v u) (EP X pins σ Q) X.xe s
noncomputable def MtR (X:Cx) (id:String) (r:V->List V->Hp->VK->Prop):Prop:=
 ∀ (pins:List (Addr×Obj)) (s:Shared) (σ:St) (H:Hp) (x:V) (xs:List V) (v:Value) (us:List Value) (Q:VK),Inv X pins σ H s->RelV x v->Vals xs us->r x xs H Q ->
  wpAny (model X.prog X.w) X.A (call (.builtin id) (v::us)) (EP X pins σ Q) X.xe s
section
variable {X:Cx} {a b:Expr} {ta tb:TE} {pos:Pos}
theorem IxR.or {r':R2} (h:IxR X r) (h':IxR X r'):IxR X (fun x y H Q=>r x y H Q\/r' x y H Q):=by
 intro value slice pins s σ H x y v u Q I rx ry q hs;rcases q with q | q
 ·exact h value slice pins s σ H x y v u Q I rx ry q hs
 ·exact h' value slice pins s σ H x y v u Q I rx ry q hs
theorem qx (hr:IxR X r) (ha:PE X a ta) (hb:PE X b tb) (hs:PlainIx b):PE X (.Subscript a b pos) (tOp r ta tb):=by
 intro pins s σ H Q I h;exact Subscript_ (qfC ha hb I h fun v u s2 x y H2 I2 rx ry q=>hr a b pins s2 σ H2 x y v u Q I2 rx ry q (hs _ _))
noncomputable def qfX (K:yg):R2:=fun x y H Q=>∃ p xs i v,x=.ref p/\y=.int i/\SqL K H p xs/\atI xs i=some v/\Q v H
noncomputable def qfY (K:yg):R2:=fun x y H Q=>∃ p xs i v,x=.ref p/\y=.int i/\SqT K H p xs/\atI xs i=some v/\Q v H
noncomputable def qfZ:R2:=fun x y H Q=>∃ z i c,x=.str z/\y=.int i/\z.length<=sizeLine/\atI z.cps.toList i=some c/\Q (.str ⟨#[c]⟩) H
theorem ix_list:IxR X (qfX X.K):=by
 intro value slice pins s σ H x y v u Q I rx ry h hs;obtain ⟨p,xs,i,z,rfl,rfl,hq,he,q⟩:=h;cases rx;obtain ⟨t,rfl⟩:=ry;obtain ⟨its,r,pl,hz⟩:=I.list hq;obtain ⟨j,h1,h2,h3,h4,h5⟩:=qcp he;obtain ⟨w,ew,rw'⟩:=r.get h2;have hl:=r.length;have hn:=qbe;have fin:EP X pins σ Q w s:=⟨z,H,I,rw',q⟩;by_cases h0:0<=i
 ·have hj:i.toNat=j:=by
   rw [seqIndex_of h0 h5] at h1;exact ym h1
  exact item_listR pl.isList h0 (by omega) (by rw [hj];simpa using ew) fin hs
 ·have hj:(i + (its.toArray.size:Int)).toNat=j:=by
   rw [seqIndex_neg (by omega) h4] at h1;rw [yw,<- hl];exact ym h1
  exact subscriptTail_builtinR (x:=w) pl.isList.typeIs X6.lookup
   (wpAny_getItem_list_neg (Q:=fun r s'=>r=w/\EP X pins σ Q r s') pl.isList (by omega) (by rw [yw]<;>omega) (by omega) (by rw [hj];simpa using ew) ⟨rfl,fin⟩) hs
theorem ix_tup:IxR X (qfY X.K):=by
 intro value slice pins s σ H x y v u Q I rx ry h hs;obtain ⟨p,xs,i,z,rfl,rfl,hq,he,q⟩:=h;cases rx;obtain ⟨t,rfl⟩:=ry;obtain ⟨its,r,pl,hz⟩:=I.tuple hq;obtain ⟨j,h1,h2,h3,h4,h5⟩:=qcp he;obtain ⟨w,ew,rw'⟩:=r.get h2;have hl:=r.length;have hn:=qbe;have fin:EP X pins σ Q w s:=⟨z,H,I,rw',q⟩;exact subscriptTail_builtinR (x:=w) pl.typeIs slot_tuple_getitem.lookup
  (getItem_tuple (j:=j) (Q:=fun r s'=>r=w/\EP X pins σ Q r s') pl (by omega) (by omega) (by rw [yw,<- hl];exact h1) (by simpa using ew) ⟨rfl,fin⟩) hs
theorem ix_str:IxR X qfZ:=by
 intro value slice pins s σ H x y v u Q I rx ry h hs;obtain ⟨z,i,c,rfl,rfl,hz,he,q⟩:=h;obtain ⟨t,rfl⟩:=rx;obtain ⟨t',rfl⟩:=ry;obtain ⟨j,h1,h2,h3,h4,h5⟩:=qcp he;have hl:z.cps.toList.length=z.length:=by simp [Str.length]
 rw [hl] at h1 h4 h5;have hn:=qbe
 exact tail_any (typeIs_str s z t) slot_str_getitem.lookup (getItem_str (c:=c) (by
  have e1:decide (i < -(2 ^ 63:Int))=false:=yl (by omega);have e2:decide (i ≥ 2 ^ 63)=false:=yl (by omega);rw [e1,e2,kl]) (by rw [h1];simpa using h2) ⟨.str ⟨#[c]⟩,H,I.tok _,⟨_,rfl⟩,q⟩) hs
noncomputable def rIx (K:yg):R2:=fun x y H Q=>qfX K x y H Q\/qfY K x y H Q\/qfZ x y H Q
theorem ix_seq:IxR X (rIx X.K):=ix_list.or (ix_tup.or ix_str)
theorem mapSeq_set (its:List Value) (n j:Nat) (u:Value):Obj.mapSeq (·.setIfInBounds j u) { cls:=.type "list",data:=.seq its.toArray n }={ cls:=.type "list",data:=.seq (its.set j u).toArray n }:=by
 simp [Obj.mapSeq]
theorem Inv.lst (I:Inv X pins σ H s) (h:H p=some (.lst xs)) :
  ∃ (its:List Value) (n:Nat),Vals xs its/\s.heap.get? p=some { cls:=.type "list",data:=.seq its.toArray n }/\xs.length<=sizeLine:=by
 obtain ⟨z,its,n,r,e⟩:=I.hok p _ h;exact ⟨its,n,r,e,z⟩
theorem Inv.lstUpd {ys:List V} {n':Nat} {f:Obj->Obj} (I:Inv X pins σ H s) (h:H p=some (.lst xs))
  (ho:s.heap.get? p=some { cls:=.type "list",data:=.seq its.toArray n }) (hf:f { cls:=.type "list",data:=.seq its.toArray n }={ cls:=.type "list",data:=.seq its'.toArray n' }) (r:Vals ys its') (hz:ys.length<=sizeLine) (t:Nat) :
  Inv X pins σ (upd H p (.lst ys)) { s with heap:=s.heap.update p f,toks:=t }:=by
 have e:(s.heap.update p f).get? p=some { cls:=.type "list",data:=.seq its'.toArray n' }:=by
  rw [YT f ho (by rw [hf]<;>rfl),hf]
 refine I.write (x:=p) (e:=p) (by rw [h];trivial) (.inl rfl) (fun b u hb q=>(Heap.get?_update_other _ _ (Ye hb)).trans q) ⟨_,e⟩ ?_;exact ⟨hz,its',n',r,e⟩
noncomputable def qeJ:V->V->V->Hp->(Hp->Prop)->Prop:=fun o i v H Q=>∃ p xs k j,o=.ref p/\i=.int k/\H p=some (.lst xs)/\ixN xs.length k=some j/\Q (upd H p (.lst (xs.set j v)))
theorem set_list:qfB X qeJ:=by
 intro pins s σ H o i v ov iv u Q I ro ri rv h;obtain ⟨p,xs,k,j,rfl,rfl,hp,hj,q⟩:=h;cases ro;obtain ⟨t,rfl⟩:=ri;obtain ⟨its,n,r,ho,hz⟩:=I.lst hp;obtain ⟨h1,h2,h3,h4⟩:=qdq hj;have hl:=r.length;have hn:=qbe
 have I':Inv X pins σ (upd H p (.lst (xs.set j v))) { s with heap:=s.heap.update p (Obj.mapSeq (·.setIfInBounds j u)) }:=
  I.lstUpd hp ho (mapSeq_set its n j u) (r.set rv j) (by rw [XC];exact hz) s.toks
 by_cases h0:0<=k
 ·have hk:k.toNat=j:=by
   rw [seqIndex_of h0 h4] at h1;exact ym h1
  exact PySem.W.ki_setAt ho h0 (by omega) (by rw [yw,<- hl];exact h4) (by rw [hk];exact ⟨_,I',q⟩)
 ·have hk:(k + (its.toArray.size:Int)).toNat=j:=by
   rw [seqIndex_neg (by omega) h3] at h1;rw [yw,<- hl];exact ym h1
  exact PySem.W.ki_setBack ho (by omega) (by rw [yw,<- hl];exact h3) (by omega) (by rw [hk];exact ⟨_,I',q⟩)
theorem slice_bounds (lo hi:Option Int) (n:Nat):(sliceBounds lo hi none n).1=((HT.sIx n 0 lo:Nat):Int)/\(sliceBounds lo hi none n).2.1=((HT.sIx n n hi:Nat):Int)/\(sliceBounds lo hi none n).2.2=1:=by
 refine ⟨?_,?_,rfl⟩
 ·cases lo with
  | none=>simp [sliceBounds,HT.sIx]
  | some i =>
   simp only [sliceBounds,HT.sIx,Option.getD_none,show (1:Int) > 0 by decide,Xm];by_cases h:i < 0
   ·simp only [h,Xm]<;>omega
   ·simp only [h,xx]<;>omega
 ·cases hi with
  | none=>simp [sliceBounds,HT.sIx]
  | some i =>
   simp only [sliceBounds,HT.sIx,Option.getD_none,show (1:Int) > 0 by decide,Xm];by_cases h:i < 0
   ·simp only [h,Xm]<;>omega
   ·simp only [h,xx]<;>omega
theorem slicePick_cut (its:List Value) (lo hi:Option Int):slicePick its.toArray lo hi none=((its.drop (HT.sIx its.length 0 lo)).take (HT.sIx its.length its.length hi - HT.sIx its.length 0 lo)).toArray:=by
 obtain ⟨h1,h2,h3⟩:=slice_bounds lo hi its.toArray.size;unfold slicePick;rw [h1,h2,h3];simp only [sliceRange_one,pick_run,yw]<;>rfl
noncomputable def qf0 (K:yg):V->Option Int->Option Int->Hp->VK->Prop:=fun x lo hi H Q=>∃ a xs,x=.ref a/\SqL K H a xs/\∀ p,H p=none->Q (.ref p) (upd H p (.lst (qbG xs lo hi)))
theorem sl_list:SlR X (qf0 X.K):=by
 intro pins s σ H x v vl vu lo hi sl Q I rx hs pl pu h;obtain ⟨a,xs,rfl,hx,q⟩:=h;cases rx;obtain ⟨its,r,ht,hz⟩:=I.list hx;have hlen:=r.length;refine ⟨"list",_,X6.lookup,ht.isList.typeIs,?_⟩;refine wpAny_getItem_list_slice ht.isList hs pl pu .none (by simp) ?_ (by rw [yw]<;>omega);rw [slicePick_cut,<- hlen];refine ⟨.ref s.heap.objs.size,_,I.laid (t':=s.toks) (o:=.lst (qbG xs lo hi)) (fun b ob q=>yv _ q) (yh _) ?_,rfl,q _ (I.hok.fresh (yh _))⟩;exact ⟨yi (qaT xs lo hi) hz,_,0,(r.drop (HT.sIx xs.length 0 lo)).take (HT.sIx xs.length xs.length hi - HT.sIx xs.length 0 lo),yO _ rfl⟩
noncomputable def zQ:V->Bool
 | .non=>true
 | .bl _=>true
 | .int _=>true
 | .str _=>true
 | _=>false
noncomputable def eqV:V->V->Bool
 | .non,.non=>true
 | .bl a,.bl b=>a==b
 | .bl a,.int b=>(if a then 1 else 0)==b
 | .int a,.bl b=>a==(if b then 1 else 0)
 | .int a,.int b=>a==b
 | .str a,.str b=>a==b
 | _,_=>false
theorem qdr (ry:RelV y u) (rx:RelV x v) (fy:zQ y=true) (fx:zQ x=true):SeqAt.EqAt A s u v (eqV y x):=by
 cases y with
 | non =>
  cases ry
  cases x with
  | non=>cases rx;exact XD _
  | bl b=>cases rx;exact SeqAt.EqAt.none_bool b
  | int b=>obtain ⟨t,rfl⟩:=rx;exact SeqAt.EqAt.none_int b t
  | str b=>obtain ⟨t,rfl⟩:=rx;exact SeqAt.EqAt.none_str b t
  | _=>exact absurd (show false=true from fx) Yj
 | bl a =>
  cases ry
  cases x with
  | non=>cases rx;exact SeqAt.EqAt.bool_none a
  | bl b=>cases rx;exact SeqAt.EqAt.bool_bool a b
  | int b=>obtain ⟨t,rfl⟩:=rx;exact SeqAt.EqAt.bool_int a b t
  | str b=>obtain ⟨t,rfl⟩:=rx;exact SeqAt.EqAt.bool_str a b t
  | _=>exact absurd (show false=true from fx) Yj
 | int a =>
  obtain ⟨t',rfl⟩:=ry
  cases x with
  | non=>cases rx;exact SeqAt.EqAt.int_none a t'
  | bl b=>cases rx;exact SeqAt.EqAt.int_bool a t' b
  | int b=>obtain ⟨t,rfl⟩:=rx;exact SeqAt.EqAt.int_int a t' b t
  | str b=>obtain ⟨t,rfl⟩:=rx;exact SeqAt.EqAt.int_str a t' b t
  | _=>exact absurd (show false=true from fx) Yj
 | str a =>
  obtain ⟨t',rfl⟩:=ry
  cases x with
  | non=>cases rx;exact SeqAt.EqAt.str_none a t'
  | bl b=>cases rx;exact SeqAt.EqAt.str_bool a t' b
  | int b=>obtain ⟨t,rfl⟩:=rx;exact SeqAt.EqAt.str_int a t' b t
  | str b=>obtain ⟨t,rfl⟩:=rx;exact SeqAt.EqAt.str_str a t' b t
  | _=>exact absurd (show false=true from fx) Yj
 | _=>exact absurd (show false=true from fy) Yj
noncomputable def eqU (x:V) (u:Value):Bool:=match u with
 | .none=>eqV .non x
 | .bool b=>eqV (.bl b) x
 | .int i _=>eqV (.int i) x
 | .str z _=>eqV (.str z) x
 | _=>false
theorem qds (r:RelV y u) (f:zQ y=true):eqU x u=eqV y x:=by
 cases y with
 | non=>cases r;rfl
 | bl b=>cases r;rfl
 | int i=>obtain ⟨t,rfl⟩:=r;rfl
 | str z=>obtain ⟨t,rfl⟩:=r;rfl
 | _=>exact absurd (show false=true from f) Yj
theorem qaU:∀ {xs:List V} {us:List Value},Vals xs us->xs.all zQ=true->us.any (eqU x)=xs.any fun y=>eqV y x
 | _,_,.nil,_=>rfl
 | y::xs,u::us,.cons r t,f=>by
  rw [Xy,yT] at f;rw [Xz,Xz,qds r f.1,qaU t f.2]
theorem zF (rx:RelV x v) (fx:zQ x=true):∀ {xs:List V} {us:List Value},Vals xs us->xs.all zQ=true->∀ u∈us,SeqAt.EqAt A s u v (eqU x u)
 | _,_,.nil,_=>fun u hu=>by cases hu
 | y::xs,u::us,.cons r t,f=>fun u' hu=>by
  rw [Xy,yT] at f;rcases yx.mp hu with rfl | hu
  ·rw [qds r f.1];exact qdr r rx f.1 fx
  ·exact zF rx fx t f.2 u' hu
noncomputable def inV (x:V) (xs:List V):Bool:=xs.any fun y=>eqV y x
noncomputable def rIn (K:yg) (neg:Bool):R2:=fun x y H Q=>∃ p xs,y=.ref p/\(SqL K H p xs\/SqT K H p xs)/\zQ x=true/\xs.all zQ=true/\Q (.bl (if neg then !inV x xs else inV x xs)) H
theorem op_in_seq:OpR X (compareOp .In) (rIn X.K false):=by
 intro pins s σ H x y v u Q I rx ry h;obtain ⟨p,xs,rfl,hq,fx,fs,q⟩:=h;cases ry;rcases hq with hq | hq
 ·obtain ⟨its,r,pl,hz⟩:=I.list hq;refine SeqAt.in_listAt (eqU x) pl.isList (fun w hw=>zF rx fx r fs w (by simpa using hw)) ⟨.bl _,H,I,rfl,?_⟩;rw [show its.toArray.any (eqU x)=its.any (eqU x) by simp,qaU r fs];exact q
 ·obtain ⟨its,r,pl,hz⟩:=I.tuple hq;refine SeqAt.in_tupleAt (eqU x) pl (fun w hw=>zF rx fx r fs w (by simpa using hw)) ⟨.bl _,H,I,rfl,?_⟩;rw [show its.toArray.any (eqU x)=its.any (eqU x) by simp,qaU r fs];exact q
theorem op_notIn_seq:OpR X (compareOp .NotIn) (rIn X.K true):=by
 intro pins s σ H x y v u Q I rx ry h;obtain ⟨p,xs,rfl,hq,fx,fs,q⟩:=h;cases ry;rcases hq with hq | hq
 ·obtain ⟨its,r,pl,hz⟩:=I.list hq;refine SeqAt.notIn_listAt (eqU x) pl.isList (fun w hw=>zF rx fx r fs w (by simpa using hw)) ⟨.bl _,H,I,rfl,?_⟩;rw [show its.toArray.any (eqU x)=its.any (eqU x) by simp,qaU r fs];exact q
 ·obtain ⟨its,r,pl,hz⟩:=I.tuple hq;refine SeqAt.notIn_tupleAt (eqU x) pl (fun w hw=>zF rx fx r fs w (by simpa using hw)) ⟨.bl _,H,I,rfl,?_⟩;rw [show its.toArray.any (eqU x)=its.any (eqU x) by simp,qaU r fs];exact q
theorem call_len_seq:zi X (.builtin "len") (fun xs H Q=>∃ p ys,xs=[.ref p]/\(SqL X.K H p ys\/SqT X.K H p ys)/\Q (.int ys.length) H):=by
 intro pins s σ H xs us Q I r h;obtain ⟨p,ys,rfl,hq,q⟩:=h;obtain ⟨u,rfl,rx⟩:=qaR r;cases rx;have hn:=qbe;rcases hq with hq | hq
 ·obtain ⟨its,r',pl,hz⟩:=I.list hq;have hlen:=r'.length;exact Calls.call_len_list pl.isList (by simp only [yw]<;>omega) ⟨.int ys.length,H,I.tok _,⟨s.toks + 1,by rw [yw,hlen]⟩,q⟩
 ·obtain ⟨its,r',pl,hz⟩:=I.tuple hq;have hlen:=r'.length;exact len_tuple pl (by simp only [yw]<;>omega) ⟨.int ys.length,H,I.tok _,⟨s.toks + 1,by rw [yw,hlen]⟩,q⟩
theorem call_len_str:zi X (.builtin "len") (fun xs H Q=>∃ z,xs=[.str z]/\z.length<=sizeLine/\Q (.int z.length) H):=by
 intro pins s σ H xs us Q I r h;obtain ⟨z,rfl,hz,q⟩:=h;obtain ⟨u,rfl,t,rfl⟩:=qaR r;have hn:=qbe;exact len_str (by omega) ⟨.int z.length,H,I.tok _,⟨_,rfl⟩,q⟩
theorem call_list_of:zi X (.type "list") (fun xs H Q=>∃ p ys,xs=[.ref p]/\(SqL X.K H p ys\/SqT X.K H p ys)/\∀ l,H l=none->Q (.ref l) (upd H l (.lst ys))):=by
 intro pins s σ H xs us Q I r h;obtain ⟨p,ys,rfl,hq,q⟩:=h;obtain ⟨u,rfl,rx⟩:=qaR r;cases rx;have fin:∀ (its:List Value),Vals ys its->ys.length<=sizeLine->∀ (h':Heap) (c':Nat),(∀ b o',s.heap.get? b=some o'->h'.get? b=some o') ->
   h'.get? s.heap.objs.size=some { cls:=.type "list",dict:=none,data:=.seq its.toArray c',slots:=#[] }->EP X pins σ Q (.ref s.heap.objs.size) { s with heap:=h' }:=fun its r' hz h' c' kp e =>
  ⟨.ref s.heap.objs.size,_,I.laid (t':=s.toks) kp (yh _) (show ObjOk X.prog X.w _ h' _ (.lst ys) from ⟨hz,its,c',r',e⟩),rfl,q _ (I.hok.fresh (yh _))⟩
 rcases hq with hq | hq
 ·obtain ⟨its,r',pl,hz⟩:=I.list hq;have hlen:=r'.length;obtain ⟨o,ho,hc,n,hd⟩:=pl.isList;exact call_list_seq p (.inl rfl) ho hc hd (fun h' c' kp e=>fin its r' hz h' c' kp e) (by simp only [yw]<;>omega)
 ·obtain ⟨its,r',pl,hz⟩:=I.tuple hq;have hlen:=r'.length;obtain ⟨o,ho,hc,n,hd⟩:=pl;exact call_list_seq p (.inr rfl) ho hc hd (fun h' c' kp e=>fin its r' hz h' c' kp e) (by simp only [yw]<;>omega)
theorem call_tuple_of:zi X (.type "tuple") (fun xs H Q=>∃ p ys,xs=[.ref p]/\((SqL X.K H p ys/\∀ l,H l=none->Q (.ref l) (upd H l (.tup ys)))\/(SqT X.K H p ys/\Q (.ref p) H))):=by
 intro pins s σ H xs us Q I r h;obtain ⟨p,ys,rfl,h⟩:=h;obtain ⟨u,rfl,rx⟩:=qaR r;cases rx;rcases h with ⟨hq,q⟩ | ⟨hq,q⟩
 ·obtain ⟨its,r',pl,hz⟩:=I.list hq;have hlen:=r'.length;refine call_tuple_list pl.isList (fun h' kp=>?_) (by simp only [yw]<;>omega);have I1:Inv X pins σ H { s with heap:=h' }:=I.kept (t':=s.toks) kp
  have I2:Inv X pins σ (upd H h'.objs.size (.tup ys)) { s with heap:=h'.push { cls:=.type "tuple",data:=.seq its.toArray } }:=
   I1.laid (t':=s.toks) (fun b o e=>yv _ e) (yh _) (show ObjOk X.prog X.w _ _ _ (.tup ys) from ⟨hz,its,r',IsTup.new _ _⟩)
  exact ⟨.ref h'.objs.size,_,I2,rfl,q _ (I1.hok.fresh (yh _))⟩
 ·obtain ⟨its,r',pl,hz⟩:=I.tuple hq;exact call_tuple_same pl ⟨.ref p,H,I,rfl,q⟩
noncomputable def tyV (K:yg) (T:String) (x:V) (H:Hp):Prop:=match x with
 | .str _=>T="str"
 | .int _=>T="int"
 | .ref p=>(T="list"/\∃ xs,SqL K H p xs)\/(T="tuple"/\∃ o,K.lookup p=some o/\o.cls=.type "tuple"/\o.dict=none) \/
   (T="dict"/\((∃ kvs,H p=some (.dK kvs))\/∃ kvs,H p=some (.dT kvs)))\/(T="set"/\∃ S n,H p=some (.set S n))
 | _=>False
theorem qeg {T:String} (I:Inv X pins σ H s) (r:RelV x v) (ty:tyV X.K T x H) :
  s.TypeIs v T/\∀ a,v=.ref a->∃ ob,s.heap.get? a=some ob/\ob.dict=none:=by
 cases x with
 | str z =>
  obtain ⟨t,rfl⟩:=r;cases (show T="str" from ty);exact ⟨typeIs_str s z t,fun _ e=>nomatch e⟩
 | int i =>
  obtain ⟨t,rfl⟩:=r;cases (show T="int" from ty);exact ⟨typeIs_int s i t,fun _ e=>nomatch e⟩
 | ref p =>
  cases r;rcases ty with ⟨rfl,xs,hq⟩ | ⟨rfl,o,hk,hc,hd⟩ | ⟨rfl,hk⟩ | ⟨rfl,S,n,hk⟩
  ·obtain ⟨its,_,pl,_⟩:=I.list hq;refine ⟨pl.isList.typeIs,fun a e=>?_⟩;cases e;obtain ⟨o,n,e,c,hd,_⟩:=pl;exact ⟨o,e,hd⟩
  ·refine ⟨⟨o,I.kIn p o hk,hc⟩,fun a e=>?_⟩;cases e;exact ⟨o,I.kIn _ o hk,hd⟩
  ·have z:∃ o,s.heap.get? p=some o/\o.ExactDict:=by
    rcases hk with ⟨kvs,hk⟩ | ⟨kvs,hk⟩
    ·obtain ⟨_,_,_,_,o,_,_,e,ex,_⟩:=I.hok p _ hk;exact ⟨o,e,ex⟩
    ·obtain ⟨_,_,_,_,o,_,_,e,ex,_⟩:=I.hok p _ hk;exact ⟨o,e,ex⟩
   obtain ⟨o,e,ex⟩:=z;refine ⟨⟨o,e,ex.1⟩,fun a e2=>?_⟩;cases e2;exact ⟨o,e,ex.2.1⟩
  ·obtain ⟨o,_,_,_,e,ex,_⟩:=I.hok p _ hk;refine ⟨⟨o,e,ex.1⟩,fun a e2=>?_⟩;cases e2;exact ⟨o,e,ex.2.1⟩
 | _=>exact False.elim ty
noncomputable def qfE (K:yg) (T:String) (r:V->List V->Hp->VK->Prop) (to:TE):TE:=fun σ H Q=>to σ H fun x H1=>tyV K T x H1/\r x [] H1 Q
noncomputable def tBM (K:yg) (T:String) (r:V->List V->Hp->VK->Prop) (to:TE) (t:TA):TE:=fun σ H Q=>to σ H fun x H1=>tyV K T x H1/\t σ H1 fun xs H2=>r x xs H2 Q
variable {o e:Expr} {es:List Expr} {to:TE} {t:TA} {name:Str} {apos cpos:Pos} {T id:String} {r:V->List V->Hp->VK->Prop}
theorem pe_bm0 (pa:PlainAttrs T) (slot:Slot T name id) (hty:typeOf (.builtin id)=pure (.type "method_descriptor")) (hm:MtR X id r) (ho:PE X o to)
  (hbase:attributeBase o name X.env (eval o X.env)=eval o X.env:=by rfl) (hline:(apos.endLine==cpos.line)=true:=by rfl):PE X (.Call (.Attribute o name apos) [] [] cpos) (qfE X.K T r to):=by
 intro pins s σ H Q I h;refine wpAny_Call_method0_late hbase hline (thn (ho pins s σ H _ I h) fun v s1 ⟨x,H1,I1,r1,ty,q1⟩=>?_);obtain ⟨h1,h2⟩:=qeg I1 r1 ty;exact ⟨T,id,pa,slot,hty,h1,h2,Xn rfl (PySem.evalArgs_none (hm pins s1 σ H1 x [] v [] Q I1 r1 .nil q1))⟩
theorem pe_bm (pa:PlainAttrs T) (slot:Slot T name id) (hty:typeOf (.builtin id)=pure (.type "method_descriptor")) (hm:MtR X id r) (ho:PE X o to) (ha:PA X (e::es) t)
  (hbase:attributeBase o name X.env (eval o X.env)=eval o X.env:=by rfl)
  (hfew:((backTo cpos (starEach (e::es) X.env)).all (fun x=>!x.1)&&(backToKw cpos (keywordEach [] X.env)).all (fun x=>x.1.isSome)
   && decide ((e::es).length + ([]:List Keyword).length + (if ([]:List Keyword).isEmpty then 0 else 1) < 30))=true:=by rfl)
  (hline:(apos.endLine==cpos.line)=true:=by rfl) (hs:starEach (e::es) X.env=(false,eval e X.env)::starEach es X.env:=by rfl) (hplain:(backTo cpos (starEach es X.env)).any (·.1)=false:=by rfl) :
  PE X (.Call (.Attribute o name apos) (e::es) [] cpos) (tBM X.K T r to t):=by
 intro pins s σ H Q I h;refine wpAny_Call_method_late hbase hfew hline rfl (thn (ho pins s σ H _ I h) fun v s1 ⟨x,H1,I1,r1,ty,q1⟩=>?_);obtain ⟨h1,h2⟩:=qeg I1 r1 ty;refine ⟨T,id,pa,slot,hty,h1,h2,?_⟩;have hA:=ha cpos pins s1 σ H1 _ I1 q1;rw [hs] at hA ⊢;refine Xn (by show (false||(backTo cpos (starEach es X.env)).any (·.1))=false;rw [hplain]<;>rfl) (Calls.evalArgs_plain ?_);exact thn hA fun us s2 ⟨vs,H2,I2,r2,q2⟩=>hm pins s2 σ H2 x vs v us Q I2 r1 r2 q2
end
noncomputable def MtM (X:Cx) (id:String) (r:V->List V->Hp->VK->Prop):Prop:=
 ∀ (pins:List (Addr×Obj)) (s:Shared) (σ:St) (H:Hp) (x:V) (xs:List V) (v:Value) (us:List Value) (Q:VK),Inv X pins σ H s->RelV x v->Vals xs us->r x xs H Q ->
  wpAny (model X.prog X.w) X.A (call (.builtin id) (v::us)) (EP X pins σ Q) X.xe s
theorem Vals.one:∀ {x:V} {us:List Value},Vals [x] us->∃ u,us=[u]/\RelV x u
 | _,_,.cons r .nil=>⟨_,rfl,r⟩
theorem Vals.eraseIdx:∀ {xs:List V} {us:List Value} (i:Nat),Vals xs us->Vals (xs.eraseIdx i) (us.eraseIdx i)
 | _,_,_,.nil=>.nil
 | _,_,0,.cons _ t=>t
 | _,_,i + 1,.cons r t=>.cons r (Vals.eraseIdx i t)
theorem Vals.rep (h:Vals xs us):∀ k:Nat,Vals (List.replicate k xs).flatten (List.replicate k us).flatten
 | 0=>.nil
 | k + 1=>by
  rw [Y5,Y5,xS,xS];exact Vals.append h (Vals.rep h k)
theorem qbV:∀ (l:List α) (i:Nat),(l.eraseIdx i).length<=l.length
 | [],_=>yh _
 | _::_,0=>xW _
 | _::r,i + 1=>Nat.succ_le_succ (qbV r i)
theorem qbW (its:List Value):∀ (k:Nat) (acc:List Value),
  List.foldl (fun x1 x2=>x1++x2) acc.toArray (List.replicate k its.toArray)=(acc++(List.replicate k its).flatten).toArray
 | 0,acc=>by simp
 | k + 1,acc=>by
  have e:acc.toArray++its.toArray=(acc++its).toArray:=by simp
  have e2:(acc++its)++(List.replicate k its).flatten=acc++(List.replicate (k + 1) its).flatten:=by
   rw [Y5,xS,Yc]
  rw [<- e2,<- qbW its k (acc++its),<- e,Y5,List.foldl_cons]
section
variable {X:Cx} {pins:List (Addr×Obj)} {σ:St} {H:Hp} {s:Shared} {l b:Addr} {xs ys zs:List V}
theorem Inv.lset {f:Array Value->Array Value} (I:Inv X pins σ H s) (hH:H l=some (.lst xs))
  (e:s.heap.get? l=some { cls:=.type "list",data:=.seq its.toArray n }) (hf:f its.toArray=its'.toArray) (hv:Vals ys its') (hz:ys.length<=sizeLine) :
  Inv X pins σ (upd H l (.lst ys)) { s with heap:=s.heap.update l (Obj.mapSeq f),toks:=t' }:=by
 have q:=PySem.IsL.update e f;rw [hf] at q;refine I.write (x:=l) (e:=l) (by rw [hH];exact trivial) (.inl rfl) (fun b' u hb hu=>(Heap.get?_update_other s.heap (Obj.mapSeq f) (Ye hb)).trans hu) ⟨_,q⟩ ?_;exact ⟨hz,its',_,hv,q⟩
theorem Inv.lnew (I:Inv X pins σ H s) (hv:Vals ys its) (hz:ys.length<=sizeLine) :
  Inv X pins σ (upd H s.heap.objs.size (.lst ys)) { s with heap:=s.heap.push { cls:=.type "list",data:=.seq its.toArray },toks:=t' }:=
 I.laid (fun _ _ q=>yv _ q) (yh _) ⟨hz,its,0,hv,yO _ rfl⟩
theorem Inv.fresh (I:Inv X pins σ H s):H s.heap.objs.size=none:=I.hok.fresh (yh _)
theorem Inv.lstM (I:Inv X pins σ H s) (hH:H l=some (.lst xs)):xs.length<=sizeLine/\∃ (its:List Value) (n:Nat),Vals xs its/\xs.length=its.length/\s.heap.get? l=some { cls:=.type "list",data:=.seq its.toArray n }:=by
 obtain ⟨z,its,n,r,e⟩:=I.hok l _ hH;exact ⟨z,its,n,r,r.length,e⟩
theorem qcO (h:n<=sizeLine):Builtin.List.listTooLong n=false:=by
 unfold Builtin.List.listTooLong;exact yl (by omega)
end
section
variable {X:Cx}
noncomputable def qdt:V->List V->Hp->VK->Prop:=fun x vs H Q=>∃ l xs y,x=.ref l/\vs=[y]/\H l=some (.lst xs)/\xs.length < sizeLine/\Q .non (upd H l (.lst (xs++[y])))
theorem mt_append:MtM X "list.append" qdt:=by
 intro pins s σ H x vs v us Q I rx rv h;obtain ⟨l,xs,y,rfl,rfl,hH,hz,q⟩:=h;cases rx;obtain ⟨u,rfl,ru⟩:=rv.one;obtain ⟨z,its,n,r,hl,e⟩:=I.lstM hH;refine X1 F.slot_list_append ⟨_,e,rfl⟩ F.entry_list_append (F.args_list_append_2 _ _) (PySem.list_append l its.toArray n u (by rw [yw];omega)) ⟨e,?_⟩;refine ⟨.non,_,I.lset (its':=its++[u]) hH e (by simp) (r.append (.cons ru .nil)) ?_,rfl,q⟩;rw [yt,List.length_singleton];omega
noncomputable def qdu:V->List V->Hp->VK->Prop:=fun x vs H Q=>∃ l b xs zs,x=.ref l/\vs=[.ref b]/\H l=some (.lst xs)/\H b=some (.lst zs)/\xs.length + zs.length<=sizeLine/\Q .non (upd H l (.lst (xs++zs)))
theorem mt_extend:MtM X "list.extend" qdu:=by
 intro pins s σ H x vs v us Q I rx rv h;obtain ⟨l,b,xs,zs,rfl,rfl,hH,hB,hz,q⟩:=h;cases rx;obtain ⟨u,rfl,ru⟩:=rv.one;cases ru;obtain ⟨z,its,n,r,hl,e⟩:=I.lstM hH;obtain ⟨z2,its2,n2,r2,hl2,e2⟩:=I.lstM hB;have hsz:its.toArray.size + its2.toArray.size<=sizeLine:=by rw [yw,yw];omega
 have hlong:¬ (!its.toArray.isEmpty&&Builtin.List.listTooLong (its.toArray.size + its2.toArray.size))=true:=by
  rw [qcO hsz,Bool.and_false];exact Yj
 refine X1 F.slot_list_extend ⟨_,e,rfl⟩ F.entry_list_extend (F.args_list_extend_2 _ _)
  (AutoSeq1.list_extend_list_list_0 l its.toArray n b its2.toArray n2 hlong (by rw [yw];omega) (by omega)) ⟨e,e2,?_⟩
 refine ⟨.non,_,I.lset (its':=its++its2) hH e (by simp) (r.append r2) ?_,rfl,q⟩;rw [yt];omega
noncomputable def qeh:V->List V->Hp->VK->Prop:=fun x vs H Q=>∃ l xs i k y,x=.ref l/\vs=[.int i]/\H l=some (.lst xs)/\-(2 ^ 63)<=i/\i < 2 ^ 63/\seqIndex? i xs.length=some k/\xs[k]?=some y/\Q y (upd H l (.lst (xs.eraseIdx k)))
theorem mt_popAt:MtM X "list.pop" qeh:=by
 intro pins s σ H x vs v us Q I rx rv h;obtain ⟨l,xs,i,k,y,rfl,rfl,hH,h1,h2,hk,hy,q⟩:=h;cases rx;obtain ⟨u,rfl,ru⟩:=rv.one;obtain ⟨t,rfl⟩:=ru;obtain ⟨z,its,n,r,hl,e⟩:=I.lstM hH;obtain ⟨w,hw,rw'⟩:=r.get hy;refine X1 F.slot_list_pop ⟨_,e,rfl⟩ F.entry_list_pop (F.args_list_pop_2 _ _)
  (MeetsSeq.list_pop_at l its.toArray n i t k w (fitsIndex_both h1 h2) (by rw [yw,<- hl];exact hk) (by rw [<- xO];exact hw) (by rw [yw];omega)) ⟨e,?_⟩
 refine ⟨y,_,I.lset (its':=its.eraseIdx k) hH e ?_ (r.eraseIdx k) ?_,rw',q⟩
 ·show its.toArray.eraseIdxIfInBounds k=(its.eraseIdx k).toArray;rw [List.eraseIdxIfInBounds_toArray]
 ·have:=qbV xs k;omega
noncomputable def qf1:R2:=fun x y H Q=>∃ l b xs zs,x=.ref l/\y=.ref b/\H l=some (.lst xs)/\H b=some (.lst zs)/\xs.length + zs.length<=sizeLine/\∀ p,H p=none->Q (.ref p) (upd H p (.lst (xs++zs)))
theorem op_cat:OpR X (binaryOp .Add) qf1:=by
 intro pins s σ H x y v u Q I rx ry h;obtain ⟨l,b,xs,zs,rfl,rfl,hH,hB,hz,q⟩:=h;cases rx;cases ry;obtain ⟨z,its,n,r,hl,e⟩:=I.lstM hH;obtain ⟨z2,its2,n2,r2,hl2,e2⟩:=I.lstM hB;refine PySem.P.add_list e e2 ?_ (by rw [yw,yw];omega);have ea:its.toArray++its2.toArray=(its++its2).toArray:=by simp
 rw [ea];exact ⟨.ref _,_,I.lnew (t':=s.toks) (r.append r2) (by rw [yt];omega),rfl,q _ I.fresh⟩
noncomputable def qf2:R2:=fun x y H Q=>∃ l k xs,x=.ref l/\y=.int k/\H l=some (.lst xs)/\-(2 ^ 63)<=k/\k < 2 ^ 63/\xs.length * k.toNat<=sizeLine /\
 ∀ p,H p=none->Q (.ref p) (upd H p (.lst (List.replicate k.toNat xs).flatten))
theorem len_rep (xs:List α) (k:Nat):(List.replicate k xs).flatten.length=k * xs.length:=by
 induction k with
 | zero=>simp
 | succ k ih=>rw [Y5,xS,yt,ih,Nat.succ_mul,Nat.add_comm]
theorem qei:OpR X (binaryOp .Mult) qf2:=by
 intro pins s σ H x y v u Q I rx ry h;obtain ⟨l,k,xs,rfl,rfl,hH,h1,h2,hz,q⟩:=h;cases rx;obtain ⟨t,rfl⟩:=ry;obtain ⟨z,its,n,r,hl,e⟩:=I.lstM hH;have hlen:its.toArray.size * k.toNat<=sizeLine:=by rw [yw,<- hl];exact hz
 have hcap:¬ its.toArray.size * k.toNat > (2 ^ 63 - 1) / 8:=by
  have:(sizeLine:Nat)<=(2 ^ 63 - 1) / 8:=by decide
  omega
 have hfit:¬ (!Builtin.List.listFitsIndex k)=true:=by
  rw [fitsIndex_both h1 h2];exact Yj
 have hlong:¬ Builtin.List.listTooLong (its.toArray.size * k.toNat)=true:=by
  rw [qcO hlen];exact Yj
 have hnew:List.foldl (fun x1 x2=>x1++x2) #[] (List.replicate (if its.toArray.isEmpty=true then 0 else k.toNat) its.toArray)=(List.replicate k.toNat its).flatten.toArray:=by
  have f0:∀ m:Nat,List.foldl (fun x1 x2=>x1++x2) #[] (List.replicate m its.toArray)=(List.replicate m its).flatten.toArray:=fun m=>by
   have:=qbW its m [];rw [List.nil_append] at this;exact this
  rw [f0]
  cases its with
  | nil=>simp
  | cons a r'=>rw [yy (by simp)]
 refine wpAny_binaryOp_repeat_ref (T:="list") (U:="int") (by decide) ⟨_,e,rfl⟩ (fun s'=>typeIs_int s' k t) noFill_list_mul F.fills_int_mul F.slot_int_rmul repeat_list F.slot_int_index.lookup
  (X1 F.slot_int_rmul (typeIs_int s k t) F.entry_int_rmul (F.args_int_rmul_2 _ _) (int___rmul___int_list k t l its.toArray n)
   ⟨e,rfl,⟨_,e,rfl⟩,X1 F.slot_list_mul ⟨_,e,rfl⟩ F.entry_list_mul (F.args_list_mul_2 _ _) (AutoListH.list___mul___list_int_3 l its.toArray n k t hfit hcap hlong) ⟨e,?_⟩⟩)
 rw [hnew];exact ⟨.ref _,_,I.lnew (t':=s.toks) (r.rep k.toNat) (by rw [len_rep,Nat.mul_comm];exact hz),rfl,q _ I.fresh⟩
end
section
variable {prog:Program} {w:World} {A:Around} {E:Value->Shared->Prop} {s:Shared}
set_option maxRecDepth 100000 in
end
section
variable {X:Cx}
end
section
variable {κ:Type} [DecidableEq κ]
noncomputable def jJ (kvs:List (κ×V)) (k:κ):Option V:=(kvs.find? fun kv=>decide (kv.1=k)).map (·.2)
noncomputable def j9 (kvs:List (κ×V)) (k:κ) (v:V):List (κ×V):=
 if (kvs.any fun kv=>decide (kv.1=k))=true then kvs.map (fun kv=>if kv.1=k then (kv.1,v) else kv) else kvs++[(k,v)]
noncomputable def dropK (kvs:List (κ×V)) (k:κ):List (κ×V):=kvs.filter fun kv=>decide (kv.1≠k)
theorem jf {p:κ×V} {r:List (κ×V)} {k:κ} (e:p.1=k):jJ (p::r) k=some p.2:=by simp [jJ,Y2,e]
theorem qT {p:κ×V} {r:List (κ×V)} {k:κ} (e:¬ p.1=k):jJ (p::r) k=jJ r k:=by simp [jJ,Y2,e]
theorem zG (k:κ):∀ kvs:List (κ×V),(kvs.any fun kv=>decide (kv.1=k))=(jJ kvs k).isSome
 | []=>rfl
 | p::r=>by
  rw [Xz];by_cases e:p.1=k
  ·simp only [jf e,yI e,Bool.true_or,Xh]
  ·rw [qT e,yl e,Bool.false_or];exact zG k r
theorem qcP (k j:κ) (y:V):∀ kvs:List (κ×V),jJ (kvs.map fun kv=>if kv.1=k then (kv.1,y) else kv) j=(jJ kvs j).map fun x=>if j=k then y else x
 | []=>rfl
 | p::r=>by
  have ih:=qcP k j y r;rw [Yy];by_cases h:p.1=k
  ·rw [yE h];by_cases e:p.1=j
   ·rw [jf (p:=(p.1,y)) e,jf e,XE,yE (e.symm.trans h)]
   ·rw [qT (p:=(p.1,y)) e,qT e,ih]
  ·rw [yy h];by_cases e:p.1=j
   ·rw [jf (p:=p) e,jf e,XE,yy (fun z=>h (e.trans z))]
   ·rw [qT (p:=p) e,qT e,ih]
theorem qbX (k j:κ) (y:V):∀ kvs:List (κ×V),jJ kvs k=none->jJ (kvs++[(k,y)]) j=if j=k then some y else jJ kvs j
 | [],_=>by
  by_cases e:k=j
  ·rw [yE e.symm];exact jf (p:=(k,y)) e
  ·rw [yy (fun z=>e z.symm)];exact qT (p:=(k,y)) e
 | p::r,hn=>by
  rw [kt];have hk:¬ p.1=k:=fun z=>by rw [jf z] at hn;cases hn
  rw [qT hk] at hn;have ih:=qbX k j y r hn;by_cases e:p.1=j
  ·rw [jf e,jf e,yy (fun z=>hk (e.trans z))]
  ·rw [qT e,qT e,ih]
theorem qaf (kvs:List (κ×V)) (k j:κ) (y:V):jJ (j9 kvs k y) j=if j=k then some y else jJ kvs j:=by
 unfold j9;by_cases a:(kvs.any fun kv=>decide (kv.1=k))=true
 ·rw [yE a,qcP];rw [zG] at a;by_cases e:j=k
  ·obtain ⟨x,hx⟩:=YW.mp a;rw [yE e,e,hx,XE,yE rfl]
  ·rw [yy e]
   cases jJ kvs j with
   | none=>rfl
   | some x=>rw [XE,yy e]
 ·rw [yy a];refine qbX k j y kvs ?_;rw [zG] at a
  cases q:jJ kvs k with
  | none=>rfl
  | some x=>rw [q] at a;exact (a rfl).elim
theorem jt (kvs:List (κ×V)) (k:κ) (v:V):(j9 kvs k v).length<=kvs.length + 1:=by
 unfold j9;split
 ·rw [ya];omega
 ·rw [yt,yC,xm];omega
theorem qag {kvs:List (κ×V)} {k:κ} (v:V) (h:jJ kvs k=none):j9 kvs k v=kvs++[(k,v)]:=by
 unfold j9;rw [zG,h];exact yy (by decide)
theorem RelO.isSome_eq {u:Option Value} (r:RelO o u):o.isSome=u.isSome:=by
 cases o with
 | none=>cases u with
  | none=>rfl
  | some _=>exact (show False from r).elim
 | some _=>cases u with
  | none=>exact (show False from r).elim
  | some _=>rfl
theorem RelO.getD {u:Option Value} {d:V} {d':Value} (r:RelO o u) (rd:RelV d d'):RelV (o.getD d) (u.getD d'):=by
 cases o with
 | none=>cases u with
  | none=>exact rd
  | some _=>exact (show False from r).elim
 | some _=>cases u with
  | none=>exact (show False from r).elim
  | some _=>exact r
theorem KV.val {kvs:List (κ×V)} {vs:List (κ×Value)} (r:KV kvs vs) (k:κ):RelO (jJ kvs k) (valueAt vs k):=by
 unfold KV at r
 induction r with
 | nil=>exact YL
 | @cons p q ps qs h t ih =>
  obtain ⟨h1,h2⟩:=h;by_cases e:p.1=k
  ·have e':q.1=k:=h1.symm.trans e;have b:valueAt (q::qs) k=some q.2:=by simp [valueAt,Y2,e']
   rw [jf e,b];exact h2
  ·have e':¬ q.1=k:=fun z=>e (h1.trans z);have b:valueAt (q::qs) k=valueAt qs k:=by simp [valueAt,Y2,e']
   rw [qT e,b];exact ih
theorem KV.any {kvs:List (κ×V)} {vs:List (κ×Value)} (r:KV kvs vs) (k:κ):(kvs.any fun kv=>decide (kv.1=k))=vs.any fun kv=>decide (kv.1=k):=by
 unfold KV at r
 induction r with
 | nil=>rfl
 | cons h t ih=>rw [Xz,Xz,ih,h.1]
theorem KV.repl {kvs:List (κ×V)} {vs:List (κ×Value)} (r:KV kvs vs) (k:κ) (ry:RelV y u) :
  KV (kvs.map fun kv=>if kv.1=k then (kv.1,y) else kv) (vs.map fun kv=>if kv.1=k then (kv.1,u) else kv):=by
 unfold KV at r ⊢
 induction r with
 | nil=>exact .nil
 | @cons p q ps qs h t ih =>
  rw [Yy,Yy];refine .cons ?_ ih;obtain ⟨h1,h2⟩:=h;by_cases e:p.1=k
  ·rw [yE e,yE (h1.symm.trans e)];exact ⟨h1,ry⟩
  ·rw [yy e,yy (fun z=>e (h1.trans z))];exact ⟨h1,h2⟩
theorem KV.put {kvs:List (κ×V)} {vs:List (κ×Value)} (r:KV kvs vs) (k:κ) (ry:RelV y u):KV (j9 kvs k y) (stored vs k u):=by
 unfold j9 stored;rw [r.any k];by_cases e:(vs.any fun kv=>decide (kv.1=k))=true
 ·rw [yE e,yE e];exact r.repl k ry
 ·rw [yy e,yy e];exact Paired.snoc r ⟨rfl,ry⟩
theorem KV.length {kvs:List (κ×V)} {vs:List (κ×Value)} (r:KV kvs vs):kvs.length=vs.length:=Paired.length r
end
theorem qdc {k:Key} (r:RelV (kV k) u):(jh P w).is k u=true:=by
 cases k with
 | inl i=>obtain ⟨t,e⟩:=(show ∃ t,u=Value.int i t from r);subst e;exact mixKind_int P w i t
 | inr x=>obtain ⟨t,e⟩:=(show ∃ t,u=Value.str x t from r);subst e;exact mixKind_str P w x t
theorem qbY:∀ {ks:List Key} {us:List Value},Vals (ks.map kV) us->ItemsAre (jh P w) ks us
 | [],_,r=>by rw [List.map_nil] at r;cases r;exact .nil
 | k::ks,_,r=>by
  rw [Yy] at r
  cases r with
  | cons h t=>exact .cons (qdc h) (qbY t)
noncomputable abbrev KT (H:Hp):List (List Key×V)->List (List Key×Addr×Value)->Prop:=Paired fun p q=>p.1=q.1/\H q.2.1=some (.tup (p.1.map kV))/\RelV p.2 q.2.2
theorem KT.val {xs:List (List Key×Addr×Value)} (r:KT H kvs xs) (k:List Key):RelO (jJ kvs k) ((atKey xs k).map (·.2)):=by
 induction r with
 | nil=>exact YL
 | @cons p q ps qs h t ih =>
  obtain ⟨h1,_,h2⟩:=h;by_cases e:p.1=k
  ·have e':q.1=k:=h1.symm.trans e;have b:atKey (q::qs) k=some q.2:=by simp [atKey,Y2,e']
   rw [jf e,b];exact h2
  ·have e':¬ q.1=k:=fun z=>e (h1.trans z);have b:atKey (q::qs) k=atKey qs k:=by simp [atKey,Y2,e']
   rw [qT e,b];exact ih
theorem KT.repl {xs:List (List Key×Addr×Value)} (r:KT H kvs xs) (k:List Key) (ry:RelV y u) :
  KT H (kvs.map fun kv=>if kv.1=k then (kv.1,y) else kv) (xs.map (putAt k u)):=by
 induction r with
 | nil=>exact .nil
 | @cons p q ps qs h t ih =>
  rw [Yy,Yy];refine .cons ?_ ih;obtain ⟨h1,h2,h3⟩:=h;unfold putAt;by_cases e:p.1=k
  ·rw [yE e,yE (h1.symm.trans e)];exact ⟨h1,h2,ry⟩
  ·rw [yy e,yy (fun z=>e (h1.trans z))];exact ⟨h1,h2,h3⟩
theorem KT.put {xs:List (List Key×Addr×Value)} (r:KT H kvs xs) (k:List Key) (hb:H b=some (.tup (k.map kV))) (ry:RelV y u) :
  KT H (j9 kvs k y) (storedH xs k b u):=by
 have e:(kvs.any fun kv=>decide (kv.1=k))=(atKey xs k).isSome:=by
  rw [zG,(r.val k).isSome_eq,xT]
 unfold j9 storedH;rw [e];by_cases q:(atKey xs k).isSome=true
 ·rw [yE q,yE q];exact r.repl k ry
 ·rw [yy q,yy q];exact Paired.snoc r ⟨rfl,hb,ry⟩
theorem KT.keeps {xs:List (List Key×Addr×Value)} (r:KT H kvs xs) (ht:∀ b ys,H b=some (.tup ys)->H' b=some (.tup ys)):KT H' kvs xs:=
 Paired.mapP r fun _ _ z=>⟨z.1,ht _ _ z.2.1,z.2.2⟩
section
variable {P:Program} {w:World} {H:Hp} {h:Heap} {a:Addr}
theorem qfa {u:HO} (ok:HOk P w H h) (e:Rd H a u):ObjOk P w H h a u:=e.ok ok
theorem qbZ {kvs:List (Key×V)} (ok:HOk P w H h) (e:Rd H a (.dK kvs)):kvs.length<=sizeLine/\(a==sysModules)=false/\∃ vs,KV kvs vs/\h.DictOf (jh P w) a vs:=
 show ObjOk P w H h a (.dK kvs) from qfa ok e
theorem qfb {kvs:List (Key×V)} (ok:HOk P w H h) (e:H a=some (.dK kvs)):kvs.length<=sizeLine/\(a==sysModules)=false/\∃ vs,KV kvs vs/\h.DictOf (jh P w) a vs:=qbZ ok (.inl e)
theorem qbg {ks:List Key} (ok:HOk P w H h) (e:H a=some (.tup (ks.map kV))):(tupleKind (jh P w)).is h ks a:=by
 obtain ⟨_,its,r,o,h1,h2,n,h3⟩:=(show ObjOk P w H h a (.tup (ks.map kV)) from ok a _ e);exact ⟨o,its.toArray,n,h1,h2,h3,by simpa using qbY r⟩
theorem qcq (ok:HOk P w H h) (e:Rd H a (.dT kvs)):kvs.length<=sizeLine/\(a==sysModules)=false /\
  ∃ xs,KT H kvs xs/\h.DictOfH (tupleKind (jh P w)) a xs:=by
 obtain ⟨z,y,xs,r,o,es,ep,h1,h2,h3,h4,h5⟩:=(show ObjOk P w H h a (.dT kvs) from qfa ok e);refine ⟨z,y,xs,r,o,es,ep,h1,h2,h3,h4,fun x hx=>?_,h5⟩
 have all:∀ {l:List (List Key×V)} {m:List (List Key×Addr×Value)},KT H l m->∀ x∈m,(tupleKind (jh P w)).is h x.1 x.2.1:=by
  intro l m q
  induction q with
  | nil=>intro x hx;exact nomatch hx
  | @cons p q ps qs hq t ih =>
   intro x hx;rcases yx.mp hx with e | hx
   ·subst e;exact qbg ok (by rw [<- hq.1];exact hq.2.1)
   ·exact ih x hx
 exact all r x hx
theorem dt_of (ok:HOk P w H h) (e:H a=some (.dT kvs)):kvs.length<=sizeLine/\(a==sysModules)=false /\
  ∃ xs,KT H kvs xs/\h.DictOfH (tupleKind (jh P w)) a xs:=qcq ok (.inl e)
end
noncomputable def DGet (H:Hp) (a:Addr) (y:V) (r:Option V):Prop:=
 (∃ kvs k,Rd H a (.dK kvs)/\y=kV k/\r=jJ kvs k)\/∃ kvs k b,Rd H a (.dT kvs)/\y=.ref b/\H b=some (.tup (k.map kV))/\r=jJ kvs k
noncomputable def DPut (H:Hp) (a:Addr) (y v:V) (H':Hp):Prop:=
 (∃ kvs k,H a=some (.dK kvs)/\y=kV k/\kvs.length < sizeLine/\H'=upd H a (.dK (j9 kvs k v))) \/
 ∃ kvs k b,H a=some (.dT kvs)/\y=.ref b/\H b=some (.tup (k.map kV))/\kvs.length < sizeLine/\H'=upd H a (.dT (j9 kvs k v))
theorem DGet.k {kvs:List (Key×V)} {k:Key} (e:H a=some (.dK kvs)):DGet H a (kV k) (jJ kvs k):=.inl ⟨kvs,k,.inl e,rfl,rfl⟩
theorem DGet.t {k:List Key} (e:H a=some (.dT kvs)) (eb:H b=some (.tup (k.map kV))):DGet H a (.ref b) (jJ kvs k):=.inr ⟨kvs,k,b,.inl e,rfl,eb,rfl⟩
theorem DPut.k {kvs:List (Key×V)} {k:Key} {v:V} (e:H a=some (.dK kvs)) (hl:kvs.length < sizeLine):DPut H a (kV k) v (upd H a (.dK (j9 kvs k v))):=.inl ⟨kvs,k,e,rfl,hl,rfl⟩
theorem DPut.t {k:List Key} {v:V} (e:H a=some (.dT kvs)) (eb:H b=some (.tup (k.map kV))) (hl:kvs.length < sizeLine) :
  DPut H a (.ref b) v (upd H a (.dT (j9 kvs k v))):=.inr ⟨kvs,k,b,e,rfl,eb,hl,rfl⟩
section
variable {X:Cx} {pins:List (Addr×Obj)} {σ:St} {H:Hp} {s:Shared} {a:Addr} {y v:V} {u r:Value} {o:Option V} {A:Around} {E:Value->Shared->Prop}
theorem Inv.big (I:Inv X pins σ H s):sysModules < s.heap.objs.size:=by
 have h:mainGlobals < s.heap.objs.size:=(I.mod.glob.keeps I.bk).lt;exact kE (by decide) h
theorem d_getItem {Q:Value->Shared->Prop} (hu:A.units + 1 < cLine) (I:Inv X pins σ H s) (g:DGet H a y (some v)) (ry:RelV y u) (h:∀ w' s',Inv X pins σ H s'->RelV v w'->Q w' s') :
  wpAny (model X.prog X.w) A (getItem (.ref a) u) Q E s:=by
 rcases g with ⟨kvs,k,e,ey,l⟩ | ⟨kvs,k,b,e,ey,eb,l⟩
 ·subst ey;obtain ⟨z,hd,vs,rel,dd⟩:=qbZ I.hok e;obtain ⟨w',hw,rw'⟩:=RelO.some_of (v:=v) (o:=valueAt vs k) (by rw [l];exact rel.val k);exact wpAny_getItem_of (qdc ry) dd.mapOf hw (h w' _ (I.tok _) rw')
 ·subst ey;cases (show u=Value.ref b from ry);obtain ⟨z,hd,xs,rel,dd⟩:=qcq I.hok e;obtain ⟨w',hw,rw'⟩:=RelO.some_of (v:=v) (o:=(atKey xs k).map (·.2)) (by rw [l];exact rel.val k);obtain ⟨p,hp,hp2⟩:=yn.mp hw;refine wpAny_getItem_heap (xH hu) (qbg I.hok eb) dd hp ?_;rw [hp2];exact h w' _ (I.tok _) rw'
theorem d_in {Q:Value->Shared->Prop} (hu:A.units + 1 < cLine) (I:Inv X pins σ H s) (g:DGet H a y o) (ry:RelV y u) (h:∀ s',Inv X pins σ H s'->Q (.bool o.isSome) s') :
  wpAny (model X.prog X.w) A (compareOp .In u (.ref a)) Q E s:=by
 rcases g with ⟨kvs,k,e,ey,l⟩ | ⟨kvs,k,b,e,ey,eb,l⟩
 ·subst ey;obtain ⟨z,hd,vs,rel,dd⟩:=qbZ I.hok e;refine wpAny_in_of (qdc ry) hd dd.mapOf ?_;rw [<- (rel.val k).isSome_eq,<- l];exact h _ (I.tok _)
 ·subst ey;cases (show u=Value.ref b from ry);obtain ⟨z,hd,xs,rel,dd⟩:=qcq I.hok e;refine wpAny_in_heap (xH hu) (qbg I.hok eb) hd dd ?_;have q:=(rel.val k).isSome_eq;rw [xT] at q;rw [<- q,<- l];exact h _ (I.tok _)
theorem d_notIn {Q:Value->Shared->Prop} (hu:A.units + 1 < cLine) (I:Inv X pins σ H s) (g:DGet H a y o) (ry:RelV y u) (h:∀ s',Inv X pins σ H s'->Q (.bool (!o.isSome)) s') :
  wpAny (model X.prog X.w) A (compareOp .NotIn u (.ref a)) Q E s:=by
 rcases g with ⟨kvs,k,e,ey,l⟩ | ⟨kvs,k,b,e,ey,eb,l⟩
 ·subst ey;obtain ⟨z,hd,vs,rel,dd⟩:=qbZ I.hok e;refine wpAny_notIn_of (qdc ry) hd dd.mapOf ?_;rw [<- (rel.val k).isSome_eq,<- l];exact h _ (I.tok _)
 ·subst ey;cases (show u=Value.ref b from ry);obtain ⟨z,hd,xs,rel,dd⟩:=qcq I.hok e;refine wpAny_notIn_heap (xH hu) (qbg I.hok eb) hd dd ?_;have q:=(rel.val k).isSome_eq;rw [xT] at q;rw [<- q,<- l];exact h _ (I.tok _)
theorem qcr {ob:HO} (I:Inv X pins σ H s) (mu:Mut (H a)) (hs:Heap.SameBut a s.heap h') (he:∃ q,h'.get? a=some q) (new:ObjOk X.prog X.w (upd H a ob) h' a ob) :
  Inv X pins σ (upd H a ob) { s with heap:=h',toks:=t' }:=
 I.write (x:=a) (e:=a) mu (.inl rfl) (fun b q hb z=>(hs.2 b hb).trans z) he new
theorem qej {kvs:List (Key×V)} {vs:List (Key×Value)} (z:kvs.length<=sizeLine) (hd:(a==sysModules)=false) (rel:KV kvs vs) (dd:h'.DictOf (jh P w) a vs) :
  ObjOk P w H' h' a (.dK kvs):=⟨z,hd,vs,rel,dd⟩
theorem d_setItem {Q:Unit->Shared->Prop} (hu:A.units + 1 < cLine) (I:Inv X pins σ H s) (g:DPut H a y v H') (ry:RelV y u) (rv:RelV v r) (h:∀ s',Inv X pins σ H' s'->Q () s') :
  wpAny (model X.prog X.w) A (setItem (.ref a) u r) Q E s:=by
 rcases g with ⟨kvs,k,e,ey,l,eH⟩ | ⟨kvs,k,b,e,ey,eb,l,eH⟩
 ·subst ey eH;obtain ⟨z,hd,vs,rel,dd⟩:=qfb I.hok e;have hz:vs.length<=sizeLine:=by rw [<- rel.length];exact z
  have hl:(j9 kvs k v).length<=sizeLine:=by have:=jt kvs k v;omega
  refine wpAny_setItem_pairs (hsz:=hz) (qdc ry) dd fun h' dd' hs=>h _ ?_;have he:∃ q,h'.get? a=some q:=let ⟨q,_,_,hq,_⟩:=dd';⟨q,hq⟩;exact qcr I (by rw [e];exact YL) hs he (qej hl hd (rel.put k rv) dd')
 ·subst ey eH;cases (show u=Value.ref b from ry);obtain ⟨z,hd,xs,rel,dd⟩:=dt_of I.hok e;have hz:xs.length<=sizeLine:=by rw [<- Paired.length rel];exact z
  have hl:(j9 kvs k v).length<=sizeLine:=by have:=jt kvs k v;omega
  refine wpAny_setItem_heap (hsz:=hz) (xH hu) (qbg I.hok eb) dd fun h' dd' hs=>h _ ?_;obtain ⟨q,es,ep,hq,h2,h3,h4,_,h5⟩:=dd';refine qcr I (by rw [e];exact YL) hs ⟨q,hq⟩ ⟨hl,hd,_,(rel.put k eb rv).keeps fun c ys ec=>?_,q,es,ep,hq,h2,h3,h4,h5⟩;rw [qe (zv ec e (fun z=>nomatch z))];exact ec
end
section
variable {X:Cx} {pins:List (Addr×Obj)} {σ:St} {H:Hp} {s:Shared} {a:Addr} {kvs:List (Key×V)} {k:Key} {u:Value} {A:Around} {E:Value->Shared->Prop}
theorem d_clear {Q:Value->Shared->Prop} (I:Inv X pins σ H s) (e:H a=some (.dK kvs)) (h:∀ s',Inv X pins σ (upd H a (.dK [])) s'->Q .none s'):wpAny (model X.prog X.w) A (call (.builtin "dict.clear") [.ref a]) Q E s:=by
 obtain ⟨z,hd,vs,rel,dd⟩:=qfb I.hok e;refine call_meetsIn PySem.F.slot_dict_clear dd.typeIs PySem.F.entry_dict_clear (PySem.F.args_dict_clear_1 _) (meets_dict_clear (jh X.prog X.w) a) ⟨vs,dd,by rw [<- rel.length];exact z,fun h' dd' hs=>h _ ?_⟩;have he:∃ q,h'.get? a=some q:=let ⟨q,_,_,hq,_⟩:=dd';⟨q,hq⟩;exact qcr (t':=s.toks) I (by rw [e];exact YL) hs he (qej (YC _) hd .nil dd')
theorem d_len {Q:Value->Shared->Prop} (I:Inv X pins σ H s) (e:Rd H a (.dK kvs)) (h:∀ t s',Inv X pins σ H s'->Q (.int kvs.length t) s'):wpAny (model X.prog X.w) A (call (.builtin "len") [.ref a]) Q E s:=by
 obtain ⟨z,hd,vs,rel,dd⟩:=qbZ I.hok e;refine call_len_dict hd dd (by rw [<- rel.length];rw [Yx] at z;omega) ?_;rw [<- rel.length];exact h _ _ (I.tok _)
end
theorem dict_typeIs (I:Inv X pins σ H s) (g:DGet H a y o):s.TypeIs (.ref a) "dict":=by
 rcases g with ⟨kvs,k,e,_,_⟩ | ⟨kvs,k,b,e,_,_,_⟩
 ·obtain ⟨_,_,vs,_,dd⟩:=qbZ I.hok e;exact dd.typeIs
 ·obtain ⟨_,_,xs,_,dd⟩:=qcq I.hok e;exact dd.typeIs
section
variable {X:Cx} {o i e value:Expr} {pos pos' tpos:Pos} {td ty tv:TE}
end
theorem dk_empty (h:Heap) (hb:sysModules < h.objs.size):ObjOk P w H (h.push { cls:=.type "dict",data:=.dict #[] }) h.objs.size (.dK []):=
 ⟨YC _,YB.mpr (Ye (yF hb)),[],.nil,Heap.DictOf.new h⟩
theorem dt_empty (h:Heap) (hb:sysModules < h.objs.size):ObjOk P w H (h.push { cls:=.type "dict",data:=.dict #[] }) h.objs.size (.dT []):=
 ⟨YC _,YB.mpr (Ye (yF hb)),[],.nil,_,#[],0,yO _ rfl,⟨rfl,rfl,rfl⟩,rfl,rfl,kL⟩
noncomputable def tDNewK:TE:=fun _ H Q=>∀ p,H p=none->Q (.ref p) (upd H p (.dK []))
noncomputable def tDNewT:TE:=fun _ H Q=>∀ p,H p=none->Q (.ref p) (upd H p (.dT []))
section
variable {X:Cx} {pos:Pos}
theorem j0:PE X (.Dict [] [] pos) tDNewK:=fun pins s σ H Q I h =>
 wpAny_Dict_empty ⟨.ref s.heap.objs.size,_,I.laid (a:=s.heap.objs.size) (o:=.dK []) (t':=s.toks) (fun _ _ q=>yv _ q) (yh _) (dk_empty s.heap I.big),rfl,h _ (I.hok.fresh (yh _))⟩
theorem pe_dnewT:PE X (.Dict [] [] pos) tDNewT:=fun pins s σ H Q I h =>
 wpAny_Dict_empty ⟨.ref s.heap.objs.size,_,I.laid (a:=s.heap.objs.size) (o:=.dT []) (t':=s.toks) (fun _ _ q=>yv _ q) (yh _) (dt_empty s.heap I.big),rfl,h _ (I.hok.fresh (yh _))⟩
end
noncomputable def mergeK (kvs more:List (Key×V)):List (Key×V):=more.foldl (fun acc kv=>j9 acc kv.1 kv.2) kvs
structure M1 (X:Cx) (o:Expr) (m:Str) (apos:Pos) (e:Expr) (cpos:Pos):Prop where
 base:attributeBase o m X.env (eval o X.env)=eval o X.env
 few:((backTo cpos (starEach [e] X.env)).all (fun x=>!x.1)&&(backToKw cpos (keywordEach [] X.env)).all (fun x=>x.1.isSome)
  && decide (([e]:List Expr).length + ([]:List Keyword).length + (if ([]:List Keyword).isEmpty then 0 else 1) < 30))=true
 line:(apos.endLine==cpos.line)=true
 trees:backTo cpos (starEach [e] X.env)=[(false,eval e X.env)]
structure M2 (X:Cx) (o:Expr) (m:Str) (apos:Pos) (e f:Expr) (cpos:Pos):Prop where
 base:attributeBase o m X.env (eval o X.env)=eval o X.env
 few:((backTo cpos (starEach [e,f] X.env)).all (fun x=>!x.1)&&(backToKw cpos (keywordEach [] X.env)).all (fun x=>x.1.isSome)
  && decide (([e,f]:List Expr).length + ([]:List Keyword).length + (if ([]:List Keyword).isEmpty then 0 else 1) < 30))=true
 line:(apos.endLine==cpos.line)=true
 trees:backTo cpos (starEach [e,f] X.env)=[(false,eval e X.env),(false,eval f X.env)]
noncomputable def IsD (H:Hp) (a:Addr):Prop:=(∃ kvs,Rd H a (.dK kvs))\/∃ kvs,Rd H a (.dT kvs)
theorem isD_at (I:Inv X pins σ H s) (d:IsD H a) :
  s.TypeIs (.ref a) "dict"/\(∀ b,Value.ref a=.ref b->∃ ob,s.heap.get? b=some ob/\ob.dict=none)/\(a==sysModules)=false:=by
 rcases d with ⟨kvs,e⟩ | ⟨kvs,e⟩
 ·obtain ⟨_,hd,vs,_,dd⟩:=qbZ I.hok e;refine ⟨dd.typeIs,fun b q=>?_,hd⟩;cases q;obtain ⟨ob,_,_,h1,h2,_⟩:=dd;exact ⟨ob,h1,h2.2.1⟩
 ·obtain ⟨_,hd,xs,_,dd⟩:=qcq I.hok e;refine ⟨dd.typeIs,fun b q=>?_,hd⟩;cases q;obtain ⟨ob,_,_,h1,h2,_⟩:=dd;exact ⟨ob,h1,h2.2.1⟩
section
variable {X:Cx} {pins:List (Addr×Obj)} {σ:St} {H:Hp} {s:Shared} {a:Addr} {y d:V} {u r:Value} {o:Option V} {A:Around} {E:Value->Shared->Prop}
theorem d_get1 {Q:Value->Shared->Prop} (hu:A.units + 1 < cLine) (I:Inv X pins σ H s) (g:DGet H a y o) (ry:RelV y u) (h:∀ w' s',Inv X pins σ H s'->RelV (o.getD .non) w'->Q w' s') :
  wpAny (model X.prog X.w) A (call (.builtin "dict.get") [.ref a,u]) Q E s:=by
 rcases g with ⟨kvs,k,e,ey,l⟩ | ⟨kvs,k,b,e,ey,eb,l⟩
 ·subst ey;obtain ⟨z,hd,vs,rel,dd⟩:=qbZ I.hok e;refine call_meetsIn Xs dd.typeIs PySem.F.entry_dict_get (PySem.F.args_dict_get_2 _ _) (meets_dict_get (jh X.prog X.w) a (qdc ry) hd) ⟨_,dd.mapOf,h _ _ (I.tok _) ?_⟩;rw [l];exact (rel.val k).getD rfl
 ·subst ey;cases (show u=Value.ref b from ry);obtain ⟨z,hd,xs,rel,dd⟩:=qcq I.hok e;refine call_meetsIn Xs dd.typeIs PySem.F.entry_dict_get (PySem.F.args_dict_get_2 _ _) (meetsH_dict_get (tupleKind (jh X.prog X.w)) a b hd) ⟨xH hu,k,xs,qbg I.hok eb,dd,h _ _ (I.tok _) ?_⟩;rw [l];exact (rel.val k).getD rfl
end
noncomputable def qek (td ty:TE):TE:=fun σ H Q=>td σ H fun x H1=>∃ a,x=.ref a/\IsD H1 a/\ty σ H1 fun y H2=>∃ o,DGet H2 a y o/\Q (o.getD .non) H2
noncomputable def tDGet2 (td ty tx:TE):TE:=fun σ H Q=>td σ H fun x H1=>∃ a,x=.ref a/\IsD H1 a/\ty σ H1 fun y H2=>tx σ H2 fun z H3=>∃ o,DGet H3 a y o/\Q (o.getD z) H3
section
variable {X:Cx} {o e f:Expr} {apos cpos:Pos} {td ty tx:TE}
theorem qah (hu:X.A.units + 1 < cLine) (ho:PE X o td) (he:PE X e ty) (m:M1 X o "get" apos e cpos):PE X (.Call (.Attribute o "get" apos) [e] [] cpos) (qek td ty):=by
 intro pins s σ H Q I h;refine wpAny_Call_method m.base m.few m.line PySem.F.plainAttrs_dict Xs PySem.F.type_dict_get (thn (ho pins s σ H _ I h) fun u s1 ⟨x,H1,I1,rx,a,ex,d,q1⟩=>?_);subst ex;obtain rfl:u=Value.ref a:=rx;obtain ⟨t1,t2,_⟩:=isD_at I1 d;refine ⟨t1,t2,?_⟩;rw [m.trees];refine Xn rfl (Calls.evalArgs_plain (Xf (thn (he pins s1 σ H1 _ I1 q1) fun iv s2 ⟨y,H2,I2,ry,ov,g,q2⟩=>Xl ?_)));exact d_get1 hu I2 g ry fun w' s3 I3 rw'=>⟨_,H2,I3,rw',q2⟩
end
section
variable {X:Cx} {pins:List (Addr×Obj)} {σ:St} {H:Hp} {s:Shared} {a:Addr} {kvs:List (Key×V)} {A:Around} {E:Value->Shared->Prop}
end
section
variable {X:Cx} {pins:List (Addr×Obj)} {σ:St} {H:Hp} {s:Shared} {a:Addr} {y:V} {u:Value} {A:Around} {E:Value->Shared->Prop}
end
end L2
namespace Att
open PySem PySem.W PySem.Calls PyProof.Rows
variable {P:Params} {h:Heap} {l:OpenLaw} {n:Nat}
theorem ints_of_wellAll:∀ (ns:List Int) (vs:List Value),WellAll P h vs (ns.map WData.int)->IntsAre vs ns:=by
 intro ns
 induction ns with
 | nil =>
  intro vs w;rw [List.map_nil] at w;cases w;exact .nil
 | cons n ns ih =>
  intro vs w;rw [Yy] at w
  cases w with
  | cons a b =>
   cases a;exact .cons _ _ (ih _ b)
theorem script_of (hn:l.most=some n) {args:List WData} {vals:List Value}
  (hpre:l.row.toRowW.claim.pre args=true) (hwl:WellAll P h vals args) :
  ∃ a vs ns,vals=[Value.ref a]/\args=[WData.list (ns.map WData.int)]/\h.get? a=some { cls:=.type "list",data:=.seq vs.toArray }/\IntsAre vs ns/\ns.length<=n:=by
 have hsh:WShape.hasAll [] args [.list .int]=true:=(pre_splitW hpre).1;have hc:l.pre.holds [] { args:=args }=true:=(pre_splitW hpre).2;obtain ⟨d,r,rfl,h1,h2⟩:=hasAllW_cons hsh;obtain rfl:=hasAllW_nil h2;obtain ⟨xs,rfl,h3⟩:=hasW_list h1;obtain ⟨ns,rfl⟩:=items_int h3
 have hlen:ns.length<=n:=by
  unfold OpenLaw.pre at hc
  have h4:(WTm.not (.lt (.lit (.int (n:Int))) (.len (.arg 0)))).holds [] { args:=[.list (ns.map .int)] }=true:=by
   have h4:=(holds_andW hc).1;rw [hn] at h4;exact h4
  have h5:=condW_of h4 (w_not (w_lt w_lit (w_len_list (w_arg rfl))));rw [ya] at h5;refine Nat.le_of_not_lt fun q=>?_;have q':(n:Int) < ((ns.length:Nat):Int):=by omega
  first
   | (rw [yI q'] at h5;exact absurd h5 (by decide))
   | (simp at h5;omega)
 cases hwl with
 | cons w1 w2 =>
  cases w2
  cases w1 with
  | list ho hall=>exact ⟨_,_,ns,rfl,rfl,ho,ints_of_wellAll ns _ hall,hlen⟩
theorem post_true (l:OpenLaw) (args:List WData):l.row.toRowW.claim.post args (.bool true) args=true:=
 postW_of (r:=l.row.toRowW) (X:=(true==true))
  (show WShape.has [] (.bool true) .bool=true by first | rfl | decide | simp [WShape.has,WShape.arms,WShape.armsAll])
  (show (WTm.eq .res (.lit (.bool true))).value [] { args:=args,res:=some (.bool true),after:=args }=some (.bool (true==true)) from w_eq_bool (w_res rfl) w_lit) rfl
theorem attach_call {q:Program} {loose:List Str} {XP:(Str->Option Value)->Heap->Prop} {YP:World->Heap->Prop} {d:DefRec}
  (hn:l.most=some n) (hdf:d.params.defaults=[])
  (call:∀ (w:World) (s₀ s₁:Shared) (mg mb:Str->Option Value) (fa:Addr) (o:Obj) (pm cd doc:Value) (a:Addr) (vs:List Value) (ns:List Int),
   Ground q loose [] XP w s₀ mg mb s₁.heap->YP w s₁.heap ->
   s₁.heap.get? fa=some o->o.data=.func (docDef d.name d.params d.body d.scope pm cd doc)->s₁.heap.CodeRec cd d.name->mg d.name=some (.ref fa) ->
   s₁.heap.get? a=some { cls:=.type "list",data:=.seq vs.toArray }->IntsAre vs ns->ns.length<=n->s₁.gens=#[] ->
   codeAny (model l.prog w) callerA (.call (.ref fa) ⟨[.ref a],[]⟩) (fun r s'=>r=.ok (.ret (.bool true))/\OldK s₁.heap s'.heap/\s'.os=s₁.os/\AllBare s'.gens) s₁) :
  WalkO q loose XP YP l.row.toRowW d [] (fun f vs=>PySem.call f vs):=by
 intro w s₀ s₁ mg mb G Y fa o pm cd doc dV kV ho hd hcd hD hmg hg args vals as hpre hlay hrd hwl hlo;obtain rfl:dV=.none:=Dflts.none hD hdf;obtain rfl:kV=.none:=Dflts.noKw hD;obtain ⟨a,vs,ns,rfl,rfl,hobj,hints,hlen⟩:=script_of hn hpre hwl;refine enter_call (kD (call w s₀ s₁ mg mb fa o pm cd doc a vs ns G Y ho (fd_plain hd) hcd hmg hobj hints hlen hg) fun r s' hq=>?_);obtain ⟨rfl,h2,h3,h4⟩:=hq;exact ⟨.inl ⟨.bool true,.bool true,[],rfl,fun _=>rfl,.bool true,post_true l _,fun _=>⟨List.Pairwise.nil,fun _ hm=>(nomatch hm)⟩⟩,h2,h3,h4⟩
section
variable {prog:Program} {w:World} {A:Around} {E:Value->Shared->Prop} {s:Shared} {K:Frag}
noncomputable def ledger (h:Heap) (L d:Addr):List (Addr×Obj):=(List.range h.objs.size).filterMap fun a=>if a=L\/a=d then none else (h.get? a).map fun o=>(a,o)
end
end Att
namespace L2
open PySem PySem.Spec PyProof.Rows
variable {A B:Prop} {H H':Hp} {a f:Addr} {fd:FuncData} {n:Nat} {ps:List Str} {qual x:Str} {sp:Sp} {st:Stmt}
theorem qb0:∀ {vs:List Value} {ns:List Int},IntsAre vs ns->Vals (ns.map V.int) vs
 | _,_,.nil=>.nil
 | _,_,.cons n t h=>.cons ⟨t,rfl⟩ (qb0 h)
noncomputable def qfF (H:Hp):Prop:=∀ b,H b=none\/∃ o xs,H b=some (.frz o (.lst xs))
theorem law_call {P:Program} {w:World} {K:yg} {mg mb:Str->Option Value} {CX:CXT} {k:Nat} {fa:Addr} {s₁:Shared} {vs:List Value} {ns:List Int}
  (KX:K.In s₁.heap) (hns:s₁.heap.Ns mainGlobals mg) (hb:s₁.heap.Ns builtinsNs mb) (hbb:∀ x:Str,x≠"__name__"->mb x=bootBuiltins x) (hlim:s₁.heap.NoLimit) (hg:s₁.gens=#[])
  (ha:s₁.heap.get? a=some { cls:=.type "list",data:=.seq vs.toArray }) (hi:IntsAre vs ns) (hl:ns.length<=sizeLine) (hr:Room k callerA)
  (F:∀ base:Heap,K.In base->base.Ns mainGlobals mg->FnOk P w K mg base CX k fa fd [x] sp) (hbind:∀ (s:Shared) (u:Value),BindsTo s fd ⟨[u],[]⟩ [(x,u)])
  (hsp:∀ H:Hp,qfF H->SqL K H a (ns.map V.int)->sp [.ref a] H (fun v _=>v=.bl true) fun _ _ _=>False)
  (hCX:∀ H e s',CX [] H s₁ (fun _ _ _=>False) e s'->False) :
  codeAny (model P w) callerA (.call (.ref fa) ⟨[.ref a],[]⟩) (fun r s'=>r=.ok (.ret (.bool true))/\OldK s₁.heap s'.heap/\s'.os=s₁.os/\AllBare s'.gens) s₁:=by
 have rv:=qb0 hi;have lenV:=hi.length;have core:∀ H:Hp,qfF H->SqL K H a (ns.map V.int)->HOk P w H s₁.heap->(∀ b,H b≠none->b=a)->(H a≠none->K.lookup a=none) ->
   codeAny (model P w) callerA (.call (.ref fa) ⟨[.ref a],[]⟩) (fun r s'=>r=.ok (.ret (.bool true))/\OldK s₁.heap s'.heap/\s'.os=s₁.os/\AllBare s'.gens) s₁:=by
  intro H hO hS hok hA hK;have base_of:∀ {b:Addr} {o:Obj},s₁.heap.get? b=some o->H b=none->(qd5 s₁.heap H).get? b=some o:=fun e n=>hidT_get e n
  have noA:∀ {b:Addr} {o:Obj} {es:Array DictEntry} {ep:Nat},s₁.heap.get? b=some o->o.data=.dict es ep->H b=none:=fun {b o es ep} e d=>by
   cases q:H b with
   | none=>rfl
   | some u =>
    have e':b=a:=hA b (by rw [q];simp);subst e';rw [ha] at e;cases e;have d':Data.seq vs.toArray _=Data.dict es ep:=d;cases d'
  have nsK:∀ {b:Addr} {m:Str->Option Value},s₁.heap.Ns b m->(qd5 s₁.heap H).Ns b m:=fun {b m} ⟨o,es,ep,e,d,r⟩=>⟨o,es,ep,base_of e (noA e d),d,r⟩
  have hKb:K.In (qd5 s₁.heap H):=fun b o e=>base_of (KX b o e) (by
   cases q:H b with
   | none=>rfl
   | some u =>
    have e':b=a:=hA b (by rw [q];simp);subst e';rw [hK (by rw [q];simp)] at e;cases e)
  have hM:Mod K mg (qd5 s₁.heap H):=⟨hKb,nsK hns,⟨mb,nsK hb,hbb⟩,let ⟨mc,h1,h2⟩:=hlim;⟨mc,nsK h1,h2⟩⟩;have e0:Env0 P w K mg (qd5 s₁.heap H) callerA [] s₁ H:=⟨rfl,hM,fun b o e=>of_hidT e,Nat.le_of_eq (hidT_size _ _),trivial,fun b hb=>absurd (show b∈([]:List Addr) from hb) (by simp),hok,.of_eq hg⟩;refine kD ((F _ hKb (nsK hns)).run callerA [] s₁ H ⟨[.ref a],[]⟩ [.ref a] [.ref a] _ _ hr e0 (hbind s₁ (.ref a)) (.cons rfl .nil) (hsp H hO hS)) fun r s' h=>?_
  cases r with
  | error e=>exact (hCX H e s' h).elim
  | ok fl =>
   cases fl with
   | next=>exact False.elim h
   | brk=>exact False.elim h
   | cont=>exact False.elim h
   | ret u =>
    obtain ⟨v,H',os,bare,un,hok',r',q⟩:=h;have q':v=.bl true:=q;subst q';obtain rfl:u=Value.bool true:=r';refine ⟨rfl,OldK.of_keep fun b o e=>?_,os,bare⟩
    cases q:H b with
    | none=>exact un.keep b o e q (by intro z;exact absurd (show b∈([]:List Addr) from z) (by simp)) (by simp)
    | some u =>
     rcases hO b with z | ⟨ob,xs,z⟩
     ·rw [q] at z;cases z
     ·have z2:=un.frzs b ob _ z;obtain ⟨e1,_⟩:=hok b _ z;obtain ⟨e2,_⟩:=hok' b _ z2;rw [e] at e1;cases e1;exact e2
 cases hk:K.lookup a with
 | some o =>
  have e:=KX a o hk;rw [ha] at e;cases e;refine core (fun _=>none) (fun _=>.inl rfl) (.inr ⟨_,vs.toArray,_,hk,rfl,rfl,rfl,by rw [yw,lenV];exact hl,by simpa using rv⟩) (fun b u z=>by have z':(none:Option HO)=some u:=z;cases z') (fun b z=>absurd rfl z) fun z=>absurd rfl z
 | none =>
  refine core (fun b=>if b=a then some (.frz { cls:=.type "list",data:=.seq vs.toArray } (.lst (ns.map V.int))) else none) (fun b=>?_) (.inl (.inr ⟨{ cls:=.type "list",data:=.seq vs.toArray },yE rfl⟩)) (fun b u z=>?_) (fun b z=>?_) fun _=>hk
  ·by_cases hb:b=a
   ·exact .inr ⟨_,_,yE hb⟩
   ·exact .inl (yy hb)
  ·by_cases hb:b=a
   ·have z':=(yE hb).symm.trans z;cases z';subst hb;exact ⟨ha,by rw [ya];exact hl,vs,_,rv,ha⟩
   ·have z':=(yy hb).symm.trans z;cases z'
  ·by_cases hb:b=a
   ·exact hb
   ·exact absurd (yy hb) z
noncomputable abbrev KOf {K:yg} {h:Heap} (_:K.In h):yg:=K
theorem walk_of {l:PySem.W.OpenLaw} {k:Nat} {q:Program} {loose:List Str} {XP:(Str->Option Value)->Heap->Prop} {YP:World->Heap->Prop} {d:DefRec} {K:Params->yg} {CX:World->CXT} {sp:World->Sp}
  (hn:l.most=some n) (hn2:n<=sizeLine) (hdf:d.params.defaults=[]) (hr:Room k callerA)
  (hY:∀ (w:World) (h:Heap),YP w h->(K w.params).In h)
  (F:∀ (w:World) (mg:Str->Option Value) (fa:Addr) (h:Heap),(K w.params).In h->h.Ns mainGlobals mg->mg d.name=some (.ref fa) ->
   ∃ fd:FuncData,(∀ (s:Shared) (u:Value),BindsTo s fd ⟨[u],[]⟩ [(x,u)]) /\
    ∀ base:Heap,(K w.params).In base->base.Ns mainGlobals mg->FnOk l.prog w (K w.params) mg base (CX w) k fa fd [x] (sp w))
  (hsp:∀ (w:World) (H:Hp) (a:Addr) (ns:List Int),ns.length<=n->qfF H->SqL (K w.params) H a (ns.map V.int)->sp w [.ref a] H (fun v _=>v=.bl true) fun _ _ _=>False)
  (hCX:∀ (w:World) (H:Hp) (s:Shared) (e:Value) (s':Shared),CX w [] H s (fun _ _ _=>False) e s'->False) :
  PySem.W.WalkO q loose XP YP l.row.toRowW d [] (fun f vs=>PySem.call f vs):=by
 refine Att.attach_call hn hdf fun w s₀ s₁ mg mb fa o pm cd doc a vs ns G Y ho hd hcd hmg hobj hints hlen hg=>?_;have KX:=hY w _ Y;obtain ⟨fd,hb,hF⟩:=F w mg fa _ KX G.T.g hmg;exact law_call KX G.T.g G.T.b G.T.builtins G.T.nolimit hg hobj hints (yi hlen hn2) hr hF hb (fun H hO hS=>hsp w H a ns hlen hO hS) fun H e s'=>hCX w H s₁ e s'
noncomputable abbrev CX0:CXT:=fun _ _ _ _ _ _=>False
noncomputable abbrev E0:XK:=fun _ _ _=>False
theorem qF {X:Cx}:qaz CX0 X E0:=fun _ _ _ _ _ _ _ h=>h.elim
structure Fun (K:yg) (x qual:Str) (st:Stmt) (f:Addr) (fd:FuncData):Prop where
 ex:∃ (oc:Value) (od:Option Addr) (kV doc pm:Value) (an:Option Addr) (cdv ct:Value) (osl:Array (Option Value)),
  fd=PySem.W.fnOf x qual (zV st) (zz st) (qh st) .none kV doc pm an cdv ct/\K.lookup f=some ⟨oc,od,.func fd,osl⟩/\PySem.W.codeIn K cdv qual=true
 kp:PySem.W.keepIn K (.ref f)=true
section
variable {P:Program} {w:World} {K:yg} {mg:Str->Option Value} {base:Heap}
theorem Fun.ok {N:List Str} {k:Nat} (F:Fun K x qual st f fd) (S:FnScope N ps (qh st)) (hbody:∀ (cdv:Value) (A:Around) (outer:List Env) (s:Shared) (H:Hp) (vs:List V) (Q:VK) (E:XK),Room k (A.deeper (envOfC qual (qh st) s.heap.objs.size f cdv))->sp vs H Q E ->
   ∃ t,PSs (qeW CX0 P w K mg base N qual (qh st) f cdv A outer s H E).nox (zz st) t/\t { nx:=fun _ H'=>Q .non H',rt:=Q } (start N vs) H) (len:∀ vs H Q E,sp vs H Q E->vs.length=ps.length:=by intro _ _ _ _ h;cases h;subst_vars;rfl):FnOk P w K mg base CX0 (k + 1) f fd ps sp:=by
 obtain ⟨oc,od,kV,doc,pm,an,cdv,ct,osl,rfl,lk,hcd⟩:=F.ex;refine fn_of lk hcd S len fun A outer s H vs Q E hr hsp=>?_;obtain ⟨t,h,q⟩:=hbody cdv A outer s H vs Q E hr hsp;exact ⟨t,h.nox,q⟩
theorem Fun.binds (F:Fun K x qual st f fd)
  (h:∀ (kV doc pm:Value) (an:Option Addr) (cdv ct:Value) (us:List Value),us.length=ps.length->bindArgs (PySem.W.fnOf x qual (zV st) (zz st) (qh st) .none kV doc pm an cdv ct) ⟨us,[]⟩=pure (ps.zip us)):Binds K fd ps []:=by
 obtain ⟨oc,od,kV,doc,pm,an,cdv,ct,osl,rfl,lk,hcd⟩:=F.ex;exact .all (h kV doc pm an cdv ct)
theorem fun_mk {oc:Value} {od an:Option Addr} {osl:Array (Option Value)} {kV doc pm cdv ct:Value} (l:K.lookup f=some ⟨oc,od,.func (PySem.W.fnOf x qual (zV st) (zz st) (qh st) .none kV doc pm an cdv ct),osl⟩)
  (c:PySem.W.codeIn K cdv qual=true) (k:PySem.W.keepIn K (.ref f)=true):Fun K x qual st f (PySem.W.fnOf x qual (zV st) (zz st) (qh st) .none kV doc pm an cdv ct):=⟨⟨oc,od,kV,doc,pm,an,cdv,ct,osl,rfl,l,c⟩,k⟩
end
theorem qi (h:n<=1000):n < sizeLine:=Yu h (by decide)
section
variable {X:Cx}
theorem pv (i:Nat) {pos:Pos} (hN:X.N[i]?=some x:=by rfl) (hv:Vis X.env.scope x:=by first | exact yJ rfl | exact X2 (yJ rfl) | exact X2 (X2 rfl)) (hd:(x==("__debug__":Str))=false:=by decide)
  (hcd:(x==("__classdict__":Str))=false:=by decide):PE X (.Name x pos) (qfz i):=pe_var hN hv hd hcd
theorem call_lenD:zi X (.builtin "len") (fun xs H Q=>∃ a kvs,xs=[V.ref a]/\H a=some (.dK kvs)/\Q (.int kvs.length) H):=by
 intro pins s σ H xs us Q I r h;obtain ⟨a,kvs,rfl,ha,q⟩:=h;obtain ⟨u,rfl,ru⟩:=qaR r;cases ru;exact d_len I (.inl ha) fun t s' I'=>⟨.int kvs.length,H,I',⟨t,rfl⟩,q⟩
end
theorem qai (h:A):if true=true then A else B:=by
 rw [yE rfl];exact h
theorem qU {c:Prop} [Decidable c] (h1:c->A) (h2:¬ c->B):if c then A else B:=by
 by_cases h:c
 ·rw [yE h];exact h1 h
 ·rw [yy h];exact h2 h
noncomputable def Same (H H':Hp):Prop:=∀ b o,H b=some o->H' b=some o
theorem Same.refl (H:Hp):Same H H:=fun _ _ h=>h
theorem Same.trans {H1 H2:Hp} (a:Same H H1) (b:Same H1 H2):Same H H2:=fun c o h=>b c o (a c o h)
theorem Same.free (e:Same H H') {l:Addr} (h:H' l=Option.none):H l=Option.none:=by
 cases q:H l with
 | none=>rfl
 | some o =>
  rw [e l o q] at h;cases h
theorem Same.seq {K:yg} {xs:List V} (e:Same H H') (h:SqL K H a xs):SqL K H' a xs:=by
 rcases h with (h | ⟨o,h⟩) | h
 ·exact .inl (.inl (e _ _ h))
 ·exact .inl (.inr ⟨o,e _ _ h⟩)
 ·exact .inr h
section
variable {κ:Type} [DecidableEq κ]
end
end L2
set_option maxHeartbeats 4000000
namespace L2
open PySem PySem.Spec PyProof.Rows
variable {C D c e it p:Addr} {E:Value->Shared->Prop} {H:Hp} {N:List Str} {P:Program} {QO:Option Int->Hp->Prop} {R:It->Hp->Prop} {T:String} {X:Cx} {acc:List (Str×Addr)} {dx:Option Addr} {elt iter tg:Expr} {env:Env} {expr:Bool} {f:V->List V->Hp->VK->Prop} {fp:List Addr} {g:TG} {h:Heap} {i j:Int} {ifs:List Expr} {its:List Value} {ixs:List Nat} {n nl:Nat} {names:List (Str×NameKind)} {od:Option Obj} {ox:Obj} {pins:List (Addr×Obj)} {pl:Sem Bool} {pos:Pos} {s:Shared} {sc scope:Scope} {tc:TT} {te:TE} {tk:Tok} {u:Value} {v y:V} {w:World} {wi:TI} {x z:Str} {xs ys:List V} {α:Type} {σ:St}
section
variable {prog:Program} {w:World} {A:Around} {R:Result->Shared->Prop} {s:Shared}
theorem compLoop_own {target:Expr} {it acc:Value} (I:Nat->Shared->Prop)
  (turn:∀ n s,I n s->wpAny (model prog w) A (pyNext it) (fun r s1=>match r with
   | none=>R (.ok .next) s1
   | some v=>wpAny (model prog w) A (letOwnedTupleGo target it v) (fun _ s1'=>wpAny (model prog w) A (assign target env v) (fun _ s2 =>
     wpAny (model prog w) A (forIn ifs true fun c r=>if r=true then do let ok <- isTrue c env (eval c env);pure (ForInStep.yield ok) else pure (ForInStep.yield r)) (fun ok s3 =>
      if ok=true then wpAny (model prog w) A (eval elt env) (fun x s4 =>
       wpAny (model prog w) A (call (.builtin "list.append") [acc,x]) (fun _ s5=>∃ m,m < n/\I m s5) (fun _ _=>False) s4) (fun _ _=>False) s3
      else ∃ m,m < n/\I m s3) (fun _ _=>False) s2) (fun _ _=>False) s1') (fun _ _=>False) s1) (fun _ _=>False) s)
  (n:Nat) (h:I n s) :
  codeAny (model prog w) A (.compLoop (.ListComp elt [⟨target,iter,ifs,0⟩] scope pos) 0 it acc env) R s:=by
 refine codeAny_loop rfl I (fun n s hI=>?_) n h;show wpAny _ A ((compTurn (.ListComp elt [⟨target,iter,ifs,0⟩] scope pos) 0 it acc env).onRaise (fun x=>do noteFrame x env;theTreesLotGoes x)) _ _ s;refine wpAny_noted ?_;rw [compTurn_list];refine yr (ki (yr (YQ (turn n s hI) (fun r s1 h1=>?_) fun _ _ h'=>h'.elim)))
 cases r with
 | none=>exact yu h1
 | some v =>
  refine yr (YQ h1 (fun _ s1' h1'=>?_) fun _ _ h'=>h'.elim);refine yr (YQ h1' (fun _ s2 h2=>yr (YQ h2 (fun ok s3 h3=>?_) fun _ _ h'=>h'.elim)) fun _ _ h'=>h'.elim)
  cases ok with
  | false=>exact yu ⟨rfl,h3⟩
  | true =>
   exact yr (yr (YQ h3 (fun x s4 h4=>yr (YQ h4 (fun _ s5 h5=>yu (yu ⟨rfl,h5⟩)) fun _ _ h'=>h'.elim)) fun _ _ h'=>h'.elim))
end
noncomputable def qI (env:Env):List (Str×NameKind)->List (Str×Addr)->List (Str×Addr)
 | [],acc=>acc
 | (n,k)::r,acc=>qI env r (if (k==.free)=true then (n,(env.cells.lookup n).getD 0)::acc else acc)
theorem zj:∀ {names:List (Str×NameKind)} {acc:List (Str×Addr)} {x:Str} {c:Addr},(qI env names acc).lookup x=some c ->
  ((x,NameKind.free)∈names/\c=(env.cells.lookup x).getD 0)\/acc.lookup x=some c
 | [],_,_,_,h=>.inr h
 | (n,k)::r,acc,x,c,h=>by
  unfold qI at h;rcases zj h with ⟨h1,h2⟩ | h1
  ·exact .inl ⟨yA _ h1,h2⟩
  ·by_cases hk:(k==NameKind.free)=true
   ·rw [yE hk,xB] at h1
    cases hx:x==n with
    | true =>
     rw [hx] at h1;have e:x=n:=Ym.mp hx;have e2:k=.free:=Ym.mp hk;subst e e2;exact .inl ⟨yL,(ym h1).symm⟩
    | false =>
     rw [hx] at h1;exact .inr h1
   ·rw [yy hk] at h1;exact .inr h1
theorem qaj:∀ {names:List (Str×NameKind)} {acc:List (Str×Addr)} {x:Str},(∃ c,acc.lookup x=some c)->∃ c,(qI env names acc).lookup x=some c
 | [],_,_,h=>h
 | (n,k)::r,acc,x,h=>by
  unfold qI;apply qaj;by_cases hk:(k==NameKind.free)=true
  ·rw [yE hk,xB]
   cases hx:x==n with
   | true=>exact ⟨_,rfl⟩
   | false=>exact h
  ·rw [yy hk];exact h
theorem zk:∀ {names:List (Str×NameKind)} {acc:List (Str×Addr)} {x:Str},(x,NameKind.free)∈names->∃ c,(qI env names acc).lookup x=some c
 | [],_,_,h=>by cases h
 | (n,k)::r,acc,x,h=>by
  unfold qI;rcases yx.mp h with e | e
  ·cases e;apply qaj;rw [show (NameKind.free==NameKind.free)=true from rfl,yE rfl,xB,Y9];exact ⟨_,rfl⟩
  ·exact zk e
theorem qak (h:∀ n,(n,NameKind.free)∈scope.names->∃ c,env.cells.lookup n=some c):closureFor scope env=pure (qI env scope.names []):=by
 have key:∀ (names:List (Str×NameKind)) (acc:List (Str×Addr)),(∀ n,(n,NameKind.free)∈names->∃ c,env.cells.lookup n=some c) ->
   (forIn names acc (fun (x:Str×NameKind) (r:List (Str×Addr))=>(if (x.2==NameKind.free)=true then (cellOf env x.1>>=fun c=>pure (ForInStep.yield ((x.1,c)::r))) else pure (ForInStep.yield r):Sem (ForInStep (List (Str×Addr))))))=(pure (qI env names acc):Sem (List (Str×Addr))):=by
  intro names
  induction names with
  | nil=>intro acc _;rfl
  | cons x r ih =>
   intro acc hn;obtain ⟨n,k⟩:=x;rw [kI];unfold qI;by_cases hk:(k==NameKind.free)=true
   ·have e2:k=.free:=Ym.mp hk;subst e2;obtain ⟨c,hc⟩:=hn n yL;have e3:cellOf env n=pure c:=by unfold cellOf;rw [hc]
    simp only [hk,Xm,e3,hc,Option.getD_some];exact ih _ fun m hm=>hn m (yA _ hm)
   ·simp only [hk,xx];exact ih _ fun m hm=>hn m (yA _ hm)
 have e:=key scope.names [] h;unfold closureFor;exact Eq.trans (congrArg (fun m=>m>>=pure) e) rfl
@[reducible] noncomputable def Cx.comp (X:Cx) (N:List Str) (scope:Scope) (C:Addr) (s0:Shared) (H0:Hp) (ex:List Addr):Cx where
 prog:=X.prog
 w:=X.w
 K:=X.K
 mg:=X.mg
 base:=X.base
 A:=X.A
 N:=N
 s₀:=s0
 H₀:=H0
 env:=compEnvC scope (cellsFrom (C + 1) scope.names (qI X.env scope.names [])) C X.env
 outer:=X.stack
 stack:=X.stack
 ex:=ex
 fn:=fun x=>scope.names.lookup x==some NameKind.cell
 calm:=X.calm
 pn:=[]
 xe:=fun _ _=>False
theorem jm:∀ (names:List (Str×NameKind)) (n:Nat) (acc:List (Str×Addr)),cellsFrom n names acc=cellsFrom n names []++acc
 | [],_,_=>rfl
 | (m,k)::r,n,acc=>by
  unfold cellsFrom;split
  ·rw [jm r (n + 1) ((m,n)::acc),jm r (n + 1) [(m,n)],Yc];rfl
  ·exact jm r n acc
theorem qal:∀ {names:List (Str×NameKind)} {n:Nat} {x:Str},(x,NameKind.cell)∈names->∃ c,(cellsFrom n names []).lookup x=some c
 | (m,k)::r,n,x,h=>by
  unfold cellsFrom;rcases yx.mp h with e | e
  ·cases e;rw [yE (show (NameKind.cell==NameKind.cell)=true from rfl),jm,xj]
   cases q:(cellsFrom (n + 1) r []).lookup m with
   | some c=>exact ⟨c,rfl⟩
   | none=>exact ⟨n,by show List.lookup m [(m,n)]=some n;rw [xB,Y9]⟩
  ·split
   ·rw [jm,xj];obtain ⟨c,hc⟩:=qal (n:=n + 1) e;exact ⟨c,by rw [hc];rfl⟩
   ·exact qal e
theorem qaV:∀ {names:List (Str×NameKind)} {n:Nat} {x:Str} {c:Addr},(x,c)∈cellsFrom n names []->(x,NameKind.cell)∈names
 | (m,k)::r,n,x,c,h=>by
  unfold cellsFrom at h;split at h
  ·rename_i hk
   rw [jm] at h;rcases yz.mp h with z | z
   ·exact yA _ (qaV z)
   ·have e:(x,c)=(m,n):=yB.mp z;cases e;rw [Ym.mp hk];exact yL
  ·exact yA _ (qaV h)
theorem qaW (h:(cellsFrom n names acc).lookup x=some c):(x,c)∈cellsFrom n names []\/acc.lookup x=some c:=by
 rw [jm,xj] at h
 cases e:(cellsFrom n names []).lookup x with
 | some d=>rw [e] at h;cases h;exact .inl (mem_of_lookup e)
 | none=>rw [e] at h;exact .inr h
theorem cells_some (h:(x,NameKind.cell)∈names\/∃ c,acc.lookup x=some c):∃ c,(cellsFrom n names acc).lookup x=some c:=by
 rw [jm,xj]
 cases e:(cellsFrom n names []).lookup x with
 | some d=>exact ⟨d,rfl⟩
 | none =>
  rcases h with z | ⟨c,hc⟩
  ·obtain ⟨d,hd⟩:=qal (n:=n) z;rw [e] at hd;cases hd
  ·exact ⟨c,hc⟩
section
variable {M:Model} {A:Around} {E:Value->Shared->Prop} {s:Shared}
theorem newEnvK {globals:Addr} {closure:List (Str×Addr)} {qual:Str} {func:Option Addr} {code:Value} {outer:Env} {builtins:Addr} {Q:Env->Shared->Prop}
  (hQ:Q (newEnv scope s.heap.objs.size globals (cellsFrom (s.heap.objs.size + 1) scope.names closure) qual func code (some outer) builtins) { s with heap:=pushCells (s.heap.push { cls:=.type "dict",data:=.dict #[] }) scope.names }) :
  wpAny M A (newFunctionEnv scope globals closure [] qual func code (some outer) builtins) Q E s:=by
 simp only [newFunctionEnv,Xh,Xm];refine yr (wpAny_alloc ?_);refine yr (wpAny_layCells _ (fun name kind cells=>by cases hkc:kind==NameKind.cell<;>simp [hkc]) _ _ _ _ ?_);rw [show ({ s with heap:=s.heap.push { cls:=.type "dict",data:=.dict #[] } }:Shared).heap.objs.size=s.heap.objs.size + 1 from xi ..];rw [kM];exact yr (yu (yu hQ))
end
structure CompOk (sc scope:Scope):Prop where
 kind:scope.kind=.function
 cel:∀ y∈scope.names,y.2=.cell->scope.names.lookup y.1=some .cell
 loc:∀ y∈scope.names,y.2=.local->scope.names.lookup y.1=some .local
 free:∀ y∈scope.names,y.2=.free->sc.names.lookup y.1=some .cell\/sc.names.lookup y.1=some .free
 once:∀ y∈scope.names,y.2=.free->scope.names.lookup y.1=some .free
noncomputable def qd7 (sc scope:Scope):Bool:=decide (scope.kind=.function)&&scope.names.all fun y=>match y.2 with
 | .local=>scope.names.lookup y.1==some .local
 | .free=>(sc.names.lookup y.1==some .cell||sc.names.lookup y.1==some .free)&&scope.names.lookup y.1==some .free
 | .cell=>scope.names.lookup y.1==some .cell
 | _=>true
theorem qcQ (h:qd7 sc scope=true):CompOk sc scope:=by
 unfold qd7 at h;rw [yT] at h;have ha:=YV.mp h.2;refine ⟨yk h.1,fun y hy e=>?_,fun y hy e=>?_,fun y hy e=>?_,fun y hy e=>?_⟩
 ·have:=ha y hy;rw [e] at this;exact Ym.mp this
 ·have:=ha y hy;rw [e] at this;exact Ym.mp this
 ·have:=ha y hy;rw [e,yT,kJ] at this;exact this.1.imp Ym.mp Ym.mp
 ·have:=ha y hy;rw [e,yT] at this;exact Ym.mp this.2
noncomputable def qfG (nl:Nat) (ixs:List Nat) (N XN:List Str) (names:List (Str×NameKind)):Bool:=(List.range ixs.length).all fun k=>match ixs[k]?,N[nl + k]? with
 | some j,some x=>XN[j]?==some x&&names.any fun y=>y.1==x&&y.2==.free
 | _,_=>true
theorem qdv {XN:List Str} (h:qfG nl ixs N XN names=true) (k j:Nat) (x:Str) (h1:ixs[k]?=some j) (h2:N[nl + k]?=some x):XN[j]?=some x/\(x,NameKind.free)∈names:=by
 have hk:k < ixs.length:=(yc.mp h1).1;have:=YV.mp h k (YI.mpr hk);rw [h1,h2] at this;simp only [yT] at this;refine ⟨Ym.mp this.1,?_⟩;obtain ⟨⟨n,kd⟩,hy,e⟩:=Yn.mp this.2;rw [yT] at e;have e1:n=x:=Ym.mp e.1;have e2:kd=.free:=Ym.mp e.2;subst e1 e2;exact hy
noncomputable def qde (nl:Nat) (ixs:List Nat) (σ:St):St:=List.replicate nl none++ixs.map fun j=>(σ[j]?).getD none
theorem capS_len (nl:Nat) (ixs:List Nat) (σ:St):(qde nl ixs σ).length=nl + ixs.length:=by
 unfold qde;rw [yt,YH,ya]
theorem qcR {i:Nat} (h:(qde nl ixs σ)[i]?=some (some v)):nl<=i/\∃ j,ixs[i - nl]?=some j/\σ[j]?=some (some v):=by
 unfold qde at h;by_cases hi:i < nl
 ·rw [yS (by rw [YH];exact hi),Xi] at h;split at h<;>cases h
 ·rw [yD (by rw [YH];omega),YH,yd] at h;refine ⟨by omega,?_⟩
  cases e:ixs[i - nl]? with
  | none=>rw [e] at h;cases h
  | some j =>
   rw [e] at h;have h':(σ[j]?).getD none=some v:=ym h
   cases q:σ[j]? with
   | none=>rw [q] at h';cases h'
   | some u =>
    rw [q] at h';exact ⟨j,rfl,by rw [q];exact congrArg some h'⟩
noncomputable def qd8 (env:Env) (y:Str×NameKind):Str×NameKind:=if (y.2==NameKind.free&&env.scope.kind==.function&&env.kindOf y.1==some .cell)=true then (y.1,NameKind.cell) else (y.1,y.2)
theorem relF_fst (env:Env) (y:Str×NameKind):(qd8 env y).1=y.1:=by unfold qd8;split<;>rfl
theorem relF_snd (env:Env) (y:Str×NameKind):(qd8 env y).2=y.2\/((qd8 env y).2=.cell/\y.2=.free):=by
 unfold qd8;split
 ·rename_i h
  rw [yT,yT] at h;exact .inr ⟨rfl,Ym.mp h.1.1⟩
 ·exact .inl rfl
theorem j3:∀ {names:List (Str×NameKind)} {x:Str} {k:NameKind},(names.map (qd8 env)).lookup x=some k->∃ k0,names.lookup x=some k0/\(x,k0)∈names/\(k=k0\/(k=.cell/\k0=.free))
 | [],_,_,h=>by cases h
 | (n,k1)::r,x,k,h=>by
  rw [Yy,show qd8 env (n,k1)=((qd8 env (n,k1)).1,(qd8 env (n,k1)).2) from rfl,xB,relF_fst] at h;rw [xB]
  cases hx:x==n with
  | true =>
   have e:x=n:=Ym.mp hx;subst e;have hx':(x==(x,k1).1)=true:=hx;rw [hx'] at h;have h':=ym h;refine ⟨k1,rfl,yL,?_⟩;rcases relF_snd env (x,k1) with z | ⟨z1,z2⟩
   ·exact .inl (h'.symm.trans z)
   ·exact .inr ⟨h'.symm.trans z1,z2⟩
  | false =>
   have hx':(x==(n,k1).1)=false:=hx;rw [hx'] at h;obtain ⟨k0,e1,e2,e3⟩:=j3 h;exact ⟨k0,e1,yA _ e2,e3⟩
section
variable {X:Cx} {pins:List (Addr×Obj)} {σ:St} {H:Hp} {s:Shared}
theorem comp_free_of {cl:List (Str×Addr)} (h:(compEnvC scope cl C X.env).kindOf x=some .cell\/(compEnvC scope cl C X.env).kindOf x=some .free):(x,NameKind.cell)∈scope.names\/(x,NameKind.free)∈scope.names:=by
 rcases h with h | h
 ·obtain ⟨k0,_,hm,e | ⟨_,e⟩⟩:=j3 (env:=X.env) (names:=scope.names) h
  ·rw [<- e] at hm;exact .inl hm
  ·rw [e] at hm;exact .inr hm
 ·obtain ⟨k0,_,hm,e | ⟨e,_⟩⟩:=j3 (env:=X.env) (names:=scope.names) h
  ·rw [<- e] at hm;exact .inr hm
  ·cases e
theorem Inv.comp {ob:Obj} {h1:Heap} {tk:Nat} (I:Inv X pins σ H s) (O:CompOk X.env.scope scope)
  (hN:N.length=nl + ixs.length) (hcap:∀ (k j:Nat) (x:Str),ixs[k]?=some j->N[nl + k]?=some x->X.N[j]?=some x/\(x,NameKind.free)∈scope.names)
  (hf:∀ b∈fp,qcm X pins H b) (hfl:∀ b∈fp,b < s.heap.objs.size) (hC:s.heap.objs.size<=C) (hD:s.heap.objs.size<=D) (hDC:D≠C) (hns:h1.Ns C fun _=>none) (k:∀ b o,s.heap.get? b=some o->h1.get? b=some o)
  (hob:h1.get? D=some ob) (hcl:∀ v,ob.data≠.cell v) (hk:CellsOk h1 (C + 1) (cellsFrom (C + 1) scope.names [])):Inv (X.comp N scope C s H fp) [(D,ob)] (qde nl ixs σ) H { s with heap:=h1,toks:=tk }:=by
 have cells:∀ x c,(qI X.env scope.names []).lookup x=some c->X.env.cells.lookup x=some c/\(x,NameKind.free)∈scope.names:=fun x c h=>by
  rcases zj h with ⟨h1,h2⟩ | h1
  ·obtain ⟨c',hc'⟩:=I.ok.has x (by
    rcases O.free _ h1 rfl with z | z
    ·exact .inl z
    ·exact .inr z)
   rw [hc'] at h2;exact ⟨by rw [hc',h2];rfl,h1⟩
  ·cases h1
 have big:∀ c:Addr,C + 1<=c->s.heap.objs.size<=c:=fun c h=>yi hC (Nat.le_of_succ_le h);have no:∀ {P:Prop} {c:Addr},C + 1<=c->c < s.heap.objs.size->P:=fun h g=>absurd (yj g (big _ h)) (Yt _)
 have all:∀ x c,(cellsFrom (C + 1) scope.names (qI X.env scope.names [])).lookup x=some c->((x,c)∈cellsFrom (C + 1) scope.names []/\C + 1<=c/\h1.IsCell c none)\/(X.env.cells.lookup x=some c/\c < s.heap.objs.size):=fun x c h=>by
  rcases qaW h with z | z
  ·exact .inl ⟨z,(hk.empty _ _ z).2,(hk.empty _ _ z).1⟩
  ·obtain ⟨_,q⟩:=I.cell x c (cells x c z).1;exact .inr ⟨(cells x c z).1,q.lt⟩
 refine ⟨⟨I.ok.mod,O.kind,I.ok.glob,I.ok.blt,hC,fun x y c h1 h2=>?inj,fun x hx=>cells_some ((comp_free_of hx).imp id zk),fun x c z h=>?cab,I.ok.hd,I.ok.frames,.inl rfl,
   fun b hb=>⟨yF (yj (hfl b hb) hC),fun x c e=>?exf⟩,I.bs,yi I.ok.bsz I.sz,fun b o e hb=>?_,fun b hb z=>?_,I.stack,I.stkFree⟩,
  rfl,I.bare,Un.kept k,⟨_,hns,fun i x v e1 e2 e3=>?_⟩,fun x c e=>?_,I.hok.fresh hC,fun x c e=>?fre,fun p hp=>?_,I.hok.kept k,?_⟩
 case inj =>
  rcases all x c h1 with ⟨a1,a2,_⟩ | ⟨a1,a2⟩<;>rcases all y c h2 with ⟨b1,b2,_⟩ | ⟨b1,b2⟩
  ·exact name_of_addr hk.apart a1 b1
  ·exact no a2 b2
  ·exact no b2 a2
  ·exact I.ok.inj x y c a1 b1
 case cab =>
  rcases all x c h with ⟨_,a2,_⟩ | ⟨a1,a2⟩
  ·exact big _ a2
  ·exfalso;obtain ⟨d,hd⟩:=qal (n:=C + 1) (mem_of_lookup (Ym.mp z));have h:(cellsFrom (C + 1) scope.names (qI X.env scope.names [])).lookup x=some c:=h;rw [jm,xj,hd] at h;cases h;exact no (hk.empty _ _ (mem_of_lookup hd)).2 a2
 case exf =>
  rcases all x c e with ⟨_,a2,_⟩ | ⟨a1,_⟩
  ·exact fun z=>no a2 (by rw [z];exact hfl b hb)
  ·exact (hf b hb).2.2.2.2.1 x c a1
 case fre =>
  rcases all x c e with ⟨_,a2,_⟩ | ⟨a1,_⟩
  ·exact I.hok.fresh (big _ a2)
  ·exact I.freeC x c a1
 ·rcases (hf b hb).2.2.2.1 with z | z
  ·exact I.ok.noex b o e z
  ·have:=(I.ok.bs b o e).1;exact absurd (yj (yH this) z) (Yt _)
 ·rcases yx.mp (I.stkSub b z) with e | e
  ·exact (hf b hb).2.1 e
  ·exact (hf b hb).2.2.1 e
 ·obtain ⟨hi,j,hj,hv⟩:=qcR e2;obtain ⟨hx,hfr⟩:=hcap (i - nl) j x hj (by rw [Nat.add_sub_cancel' hi];exact e1);obtain ⟨m,hn,hl⟩:=I.loc;have hk:=O.free _ hfr rfl
  obtain ⟨u,ru,lk⟩:=hl j x v hx hv (by
   rcases hk with z | z
   ·exact .inr (.inl z)
   ·exact .inr (.inr z))
  refine ⟨u,ru,?_⟩;rcases lk with ⟨hk2,_⟩ | ⟨_,c,hc,hcell⟩
  ·have hk2':X.env.scope.names.lookup x=some .local:=hk2;rcases hk with z | z<;>· rw [z] at hk2';cases hk2'
  ·obtain ⟨c',hc'⟩:=zk (env:=X.env) (acc:=[]) hfr
   have e:c'=c:=by
    have:=(cells x c' hc').1;rw [hc] at this;exact (ym this).symm
   subst e
   have hc2:(cellsFrom (C + 1) scope.names (qI X.env scope.names [])).lookup x=some c':=by
    rw [jm,xj]
    cases q:(cellsFrom (C + 1) scope.names []).lookup x with
    | none=>exact hc'
    | some d=>have:=O.cel _ (qaV (mem_of_lookup q)) rfl;rw [O.once _ hfr rfl] at this;cases this
   refine .inr ⟨?_,c',hc2,?_⟩
   ·rcases e3 with z | z | z
    ·obtain ⟨k0,z3,_,e | ⟨e,_⟩⟩:=j3 (env:=X.env) (names:=scope.names) z
     ·rw [O.once _ hfr rfl] at z3;cases z3;cases e
     ·cases e
    ·exact .inl z
    ·exact .inr z
   ·obtain ⟨o,ho,hd⟩:=hcell;exact ⟨o,k _ _ ho,hd⟩
 ·rcases all x c e with ⟨_,_,a3⟩ | ⟨a1,_⟩
  ·exact ⟨none,a3⟩
  ·obtain ⟨v,o,ho,hd⟩:=I.cell x c a1;exact ⟨v,o,k _ _ ho,hd⟩
 ·have e:p=(D,ob):=by simpa using hp
  subst e;refine ⟨hob,I.hok.fresh hD,hDC,fun z=>?_,hcl⟩;rcases yx.mp (I.stkSub D z) with e | e
  ·exact absurd (show X.env.locals < D from yj I.lt hD) (by rw [e];exact Yt _)
  ·exact I.nofs hD e
 ·show (qde nl ixs σ).length=N.length;rw [capS_len,hN]
theorem Inv.compBack {s':Shared} {H':Hp} {σ':St} (I:Inv X pins σ H s) (hf:∀ b∈fp,qcm X pins H b) (hC:s.heap.objs.size<=C) (hD:s.heap.objs.size<=D)
  (J:Inv (X.comp N scope C s H fp) [(D,{ cls:=.type "list",data:=.seq its.toArray n })] σ' H' s') (hv:Vals ys its) (hz:ys.length<=sizeLine):Inv X pins σ (upd H' D (.lst ys)) s':=by
 obtain ⟨pD,nD,neD,_,_⟩:=J.pin (D,{ cls:=.type "list",data:=.seq its.toArray n }) (yK _ (yB.mpr rfl));have ltD:∀ b o,s.heap.get? b=some o->b≠D:=fun b o e=>yF (yj (yH e) hD);have J0:=J.base;refine I.call' (ch:=fp) J.os ⟨J0.keep,J0.slot,fun b o e n hx=>?_,J0.there,fun b xs e=>?_,fun b o u e=>?_,fun b ps e=>?_⟩ (fun b u e=>?_) J.bare fun b hb=>⟨(hf b hb).2.2.2.1,(hf b hb).2.1,(hf b hb).2.2.2.2.1,(hf b hb).2.2.2.2.2⟩
 ·rw [qe (ltD b o e)];exact J0.free b o e n hx
 ·have q:=J0.tups b xs e;rw [qe (qj q nD)];exact q
 ·have q:=J0.frzs b o u e;rw [qe (qj q nD)];exact q
 ·obtain ⟨more,q⟩:=J0.tbls b ps e;exact ⟨more,by rw [qe (qj q nD)];exact q⟩
 ·by_cases hb:b=D
  ·subst hb;rw [qb] at e;cases e;exact ⟨hz,its,n,hv,pD⟩
  ·rw [qe hb] at e;exact (J.hok b u e).stay (fun c v _ q=>q) (fun c q=>by rw [qe (qj q nD)];exact q) fun c xs q=>by rw [qe (qj q nD)];exact q
end
noncomputable def qf3:TT:=fun _ H Q=>Q true H
noncomputable def qeK (wi:TI) (g:TG) (tc:TT) (te:TE) (nl:Nat) (ixs:List Nat):TE:=fun σ H Q=>wi σ H fun J H1 =>
 ∃ W:Nat->Nat->List V->Hp->Prop,(∃ m,W 0 m [] H1)/\∀ i m ys H,W i m ys H ->
  (J.stop i H/\ys.length<=sizeLine/\∀ p,H p=none->Q (.ref p) (upd H p (.lst ys))) \/
  (J.go i H/\∃ M:List V->Hp->Prop,(∀ ys' H',M ys' H'->∃ m',m' < m/\W (i + 1) m' ys' H')/\∀ x H',J.yld i H x H'->g x (qde nl ixs σ) H' fun σ2 H2=>tc σ2 H2 fun b H3 =>
   if b=true then te σ2 H3 fun v H4=>ys.length < sizeLine/\M (ys++[v]) H4 else M ys H3)
noncomputable def qdw (nl:Nat) (g:TG):Prop:=∀ x σ H Q,g x σ H Q->g x σ H fun σ2 H2=>Q σ2 H2/\σ2.length=σ.length/\∀ i,nl<=i->σ2[i]?=σ[i]?
theorem ji {i:Nat} (h:i < nl:=by decide):qdw nl (qbp i):=fun x σ H Q q=>⟨q,XC ..,fun j hj=>xo (by omega)⟩
noncomputable def qfc (X:Cx) (ifs:List Expr) (tc:TT):Prop:=
 ∀ (pins:List (Addr×Obj)) (s:Shared) (σ:St) (H:Hp) (Q:Bool->Hp->Prop),Inv X pins σ H s->tc σ H Q ->
  wpAny (model X.prog X.w) X.A (forIn ifs true fun c r=>if r=true then do let ok <- isTrue c X.env (eval c X.env);pure (ForInStep.yield ok) else pure (ForInStep.yield r)) (TP X pins σ Q) X.xe s
theorem jN:qfc X [] qf3:=fun pins s σ H Q I h=>wpAny_tests_nil ⟨H,I,h⟩
theorem jO {c:Expr} (h:PT X c tc):qfc X [c] tc:=fun pins s σ H Q I q=>wpAny_tests_one (h pins s σ H Q I q)
section
variable {X:Cx} {pins:List (Addr×Obj)} {σ:St} {H:Hp} {s:Shared}
theorem qbh {tn:Nat->Heap->Prop} {J:It} {Q:V->Hp->Prop}
  {RR:Value->Addr->Result->Shared->Prop} (I:Inv X pins σ H s) (hc:X.calm=true) (O:CompOk X.env.scope scope)
  (hN:N.length=nl + ixs.length) (hcap:∀ (k j:Nat) (x:Str),ixs[k]?=some j->N[nl + k]?=some x->X.N[j]?=some x/\(x,NameKind.free)∈scope.names)
  (T:Turn X.prog X.w X.K tg J fp it tn) (st:tn 0 s.heap) (hf:∀ b∈fp,qcm X pins H b)
  (hg:∀ C s0 H0 ex,PG (X.comp N scope C s0 H0 ex) tg g) (gk:qdw nl g) (hi:∀ C s0 H0 ex,qfc (X.comp N scope C s0 H0 ex) ifs tc) (he:∀ C s0 H0 ex,PE (X.comp N scope C s0 H0 ex) elt te)
  (h:∃ W:Nat->Nat->List V->Hp->Prop,(∃ m,W 0 m [] H)/\∀ i m ys H,W i m ys H ->
   (J.stop i H/\ys.length<=sizeLine/\∀ p,H p=none->Q (.ref p) (upd H p (.lst ys))) \/
   (J.go i H/\∃ M:List V->Hp->Prop,(∀ ys' H',M ys' H'->∃ m',m' < m/\W (i + 1) m' ys' H')/\∀ x H',J.yld i H x H'->g x (qde nl ixs σ) H' fun σ2 H2=>tc σ2 H2 fun b H3 =>
    if b=true then te σ2 H3 fun v H4=>ys.length < sizeLine/\M (ys++[v]) H4 else M ys H3))
  (hRR:∀ (D C:Addr) (s':Shared) (H':Hp) (σ':St) (ys:List V) (its:List Value) (n:Nat),s.heap.objs.size<=C->s.heap.objs.size<=D->Inv (X.comp N scope C s H fp) [(D,{ cls:=.type "list",data:=.seq its.toArray n })] σ' H' s'->Vals ys its->ys.length<=sizeLine ->
   (∀ p,H' p=none->Q (.ref p) (upd H' p (.lst ys)))->RR (.ref D) C (.ok .next) s') :
  wpAny (model X.prog X.w) X.A (newList []) (fun acc s3=>wpAny (model X.prog X.w) X.A (newFunctionEnv scope X.env.globals (qI X.env scope.names []) [] X.env.qual none .none (some X.env)) (fun cenv s4 =>
   codeAny (model X.prog X.w) X.A (.compStart (.ListComp elt [⟨tg,iter,ifs,0⟩] scope pos) 0 (.ref it) acc { cenv with scope:=relabel scope X.env }) (RR acc cenv.locals) s4) E s3) E s:=by
 obtain ⟨W,⟨m0,w0⟩,turn⟩:=h;refine YG (newEnvK ?_);dsimp only;generalize hH2:s.heap.push { cls:=.type "list",dict:=none,data:=.seq ([]:List Value).toArray }=H2;have hns1:(pushCells (H2.push { cls:=.type "dict",data:=.dict #[] }) scope.names).Ns H2.objs.size fun _=>none:=(Heap.Ns.new H2 (.type "dict")).keeps (pushCells_keeps _ _);have hk1:=cellsFrom_ok scope.names (H2.push { cls:=.type "dict",data:=.dict #[] }) (H2.objs.size + 1) [] ⟨fun _ _ hm=>(nomatch hm),List.Pairwise.nil⟩ (by rw [xi];exact yh _);rw [xi] at hk1;have kp1:∀ b o,H2.get? b=some o->(pushCells (H2.push { cls:=.type "dict",data:=.dict #[] }) scope.names).get? b=some o:=fun b o e=>pushCells_keeps _ _ b o (yv _ e);generalize pushCells (H2.push { cls:=.type "dict",data:=.dict #[] }) scope.names=h1 at hns1 hk1 kp1 ⊢;have hC:H2.objs.size=s.heap.objs.size + 1:=by rw [<- hH2,xi]
 have hDC:s.heap.objs.size≠H2.objs.size:=by rw [hC];exact yF (Xu _)
 have hCle:s.heap.objs.size<=H2.objs.size:=by rw [hC];exact xW _
 have below:∀ b,b < s.heap.objs.size->b≠H2.objs.size/\b≠s.heap.objs.size:=fun b hb=>⟨by rw [hC];exact yF (X7 hb),yF hb⟩;have old:∀ b o,s.heap.get? b=some o->h1.get? b=some o:=fun b o e=>kp1 b o (hH2 ▸ yv _ e);have hacc:h1.get? s.heap.objs.size=some { cls:=.type "list",data:=.seq ([]:List Value).toArray }:=kp1 _ _ (hH2 ▸ yO _ rfl)
 have hfl:∀ b∈fp,b < s.heap.objs.size:=fun b hb=>by
  obtain ⟨o,ho,_⟩:=T.obj 0 _ st b hb;exact yH ho
 have loop:∀ s3:Shared,s3={ s with heap:=h1 } ->
   codeAny (model X.prog X.w) X.A (.compLoop (.ListComp elt [⟨tg,iter,ifs,0⟩] scope pos) 0 (.ref it) (.ref s.heap.objs.size) (compEnvC scope (cellsFrom (H2.objs.size + 1) scope.names (qI X.env scope.names [])) H2.objs.size X.env)) (RR (.ref s.heap.objs.size) H2.objs.size) s3:=by
  rintro s3 rfl;have I0:=I.comp (N:=N) (C:=H2.objs.size) (D:=s.heap.objs.size) (h1:=h1) (tk:=s.toks) O hN hcap hf hfl hCle (yh _) hDC hns1 old hacc (fun v z=>by cases z) hk1
  have stat:∀ {H':Hp} {σ':St} {s':Shared} {pl:List (Addr×Obj)},Inv (X.comp N scope H2.objs.size s H fp) pl σ' H' s'->(∀ p∈pl,p.1=s.heap.objs.size)->(∀ b∈fp,H' b=none)->∀ b∈fp,qcm (X.comp N scope H2.objs.size s H fp) pl H' b:=fun {H' σ' s' pl} J hpl hn b hb =>
   ⟨hn b hb,(below b (hfl b hb)).1,fun z=>(by
     rcases yx.mp (I.stkSub b z) with e | e
     ·exact (hf b hb).2.1 e
     ·exact (hf b hb).2.2.1 e),.inl hb,J.ok.exf b hb |>.2,fun p hp z=>by
    have e:=hpl p (by simpa using hp);rw [e] at z;exact (below b (hfl b hb)).2 z.symm⟩
  refine compLoop_own (fun k s'=>∃ i H' ys its n,Inv (X.comp N scope H2.objs.size s H fp) [(s.heap.objs.size,{ cls:=.type "list",data:=.seq its.toArray n })] (qde nl ixs σ) H' s'/\tn i s'.heap/\(∀ b∈fp,H' b=none)/\Vals ys its/\W i k ys H') ?_ m0
   ⟨0,H,[],[],0,I0,T.keep _ _ _ st fun b _ o e=>old b o e,fun b hb=>(hf b hb).1,.nil,w0⟩
  rintro k s' ⟨i,H',ys,its,n,J1,st1,fr1,v1,w1⟩
  have one:∀ p∈[((s.heap.objs.size,{ cls:=.type "list",data:=.seq its.toArray n }):Addr×Obj)],p.1=s.heap.objs.size:=fun p hp=>by
   have e:p=_:=yB.mp hp;rw [e]
  rcases turn i k ys H' w1 with ⟨stop,hz,q⟩ | ⟨go,M,hM,step⟩
  ·refine thn (T.done (X.comp N scope H2.objs.size s H fp) rfl rfl rfl hc i _ s' _ H' _ J1 (stat J1 one fr1) st1 stop) fun r s4 ⟨hr,J4⟩=>?_;subst hr;exact hRR _ _ s4 H' _ ys its n hCle (yh _) J4 v1 hz q
  ·refine thn (T.item (X.comp N scope H2.objs.size s H fp) rfl rfl rfl hc i _ s' _ H' _ J1 (stat J1 one fr1) st1 go) fun r s4 ⟨u,hr,h4⟩=>?_;subst hr;refine thn h4 fun _ s5 ⟨x,H5,J5,r5,y5,st5,fr5⟩=>?_;have J5':=J5.pinned (stat J5 one fr5) (T.obj _ _ st5);refine thn (hg _ _ _ _ _ s5 _ H5 x u _ J5' r5 (gk _ _ _ _ (step x H5 y5))) fun _ s6 ⟨σ6,H6,J6,q6,l6,k6⟩=>?_;refine thn (hi _ _ _ _ _ s6 σ6 H6 _ J6 q6) fun ok s7 ⟨H7,J7,q7⟩=>?_;have again:∀ {s8:Shared} {H8:Hp} {ys':List V} {k':Nat},Inv (X.comp N scope H2.objs.size s H fp) ([((s.heap.objs.size,{ cls:=.type "list",data:=.seq its.toArray n }):Addr×Obj)]++qbN fp s5.heap) σ6 H8 s8 ->
     (∀ b o,b≠s.heap.objs.size->s8.heap.get? b=some o->s8.heap.get? b=some o)->tn (i + 1) s8.heap/\∀ b∈fp,H8 b=none:=fun {s8 H8 ys' k'} J8 _=>by
    refine ⟨T.keep _ _ _ st5 fun b hb o e=>(J8.pin (b,o) (yK _ (yK _ (zE hb e)))).1,fun b hb=>?_⟩;obtain ⟨o,e,d⟩:=T.obj _ _ st5 b hb;exact (J8.pin (b,o) (yK _ (yK _ (zE hb e)))).2.1
   have wk:∀ (j:Nat) v,(qde nl ixs σ)[j]?=some (some v)->σ6[j]?=some (some v):=fun j v e=>by
    obtain ⟨hj,_⟩:=qcR e;rw [k6 j hj];exact e
   cases ok with
   | false =>
    rw [yy Yj] at q7 ⊢;obtain ⟨m',hm,w7⟩:=hM _ _ q7;obtain ⟨st7,fr7⟩:=again (ys':=ys) (k':=0) J7 (fun _ _ _ e=>e);exact ⟨m',hm,i + 1,H7,ys,its,n,J7.unpinned.weak l6.symm wk,st7,fr7,v1,w7⟩
   | true =>
    rw [yE rfl] at q7 ⊢;refine thn (he _ _ _ _ _ s7 σ6 H7 _ J7 q7) fun y s8 ⟨v,H8,J8,r8,hlt,mq⟩=>?_;obtain ⟨m',hm,w8⟩:=hM _ _ mq;obtain ⟨st8,fr8⟩:=again (ys':=ys) (k':=0) J8 (fun _ _ _ e=>e);have J9:=J8.unpinned;obtain ⟨pD,nD,neD,nfD,_⟩:=J9.pin (s.heap.objs.size,{ cls:=.type "list",data:=.seq its.toArray n }) (yK _ (yB.mpr rfl));refine wpAny_list_append_plain (hsz:=by rw [yw,<- v1.length];omega) ⟨n,pD⟩ fun h9 hl9 hs9=>?_;obtain ⟨n9,hl9⟩:=hl9;have e9:(its.toArray.push y)=(its++[y]).toArray:=by simp
    rw [e9] at hl9
    have Ja:Inv (X.comp N scope H2.objs.size s H fp) [] (qde nl ixs σ) H8 { s8 with heap:=h9,toks:=s8.toks }:=
     ((J9.pins_of (pins':=[]) fun p hp=>absurd hp (by simp)).turned (it:=s.heap.objs.size) (h':=h9) (t':=s8.toks) (fun b o hb e=>(hs9.2 b hb).trans e) nD neD (.inr (yh _))
      (fun x c e z=>by
       rcases qaW e with w | e
       ·have:=(hk1.empty _ _ w).2;rw [z,hC] at this;exact absurd (yi (xW _) this) (Nat.not_succ_le_self _)
       have:=zj e;rcases this with ⟨hfr,hcc⟩ | hcc
       ·obtain ⟨c',hc'⟩:=I.ok.has x (by
         rcases O.free _ hfr rfl with q | q
         ·exact .inl q
         ·exact .inr q)
        rw [hc'] at hcc;have hcc':c=c':=hcc;obtain ⟨_,q⟩:=I.cell x c' hc';rw [<- hcc',z] at q;exact absurd q.lt (Yt _)
       ·cases hcc) (fun p hp=>absurd hp (by simp))).weak l6.symm wk
    refine ⟨m',hm,i + 1,H8,ys++[v],its++[y],n9,Ja.pins_of fun p hp=>?_,?_,fr8,v1.append (.cons r8 .nil),w8⟩
    ·have e:p=_:=yB.mp hp;subst e;exact ⟨hl9,nD,neD,nfD,fun v z=>by cases z⟩
    ·exact T.keep _ _ _ st8 fun b hb o e=>(hs9.2 b (below b (hfl b hb)).2).trans e
 exact codeAny_compStart_list (loop _ rfl) (T.self _ 0 _ _ _ (T.keep _ _ _ st fun b _ o e=>old b o e) (loop _ rfl))
end
section
variable {X:Cx} {tg elt iter:Expr} {ifs:List Expr} {scope:Scope} {pos:Pos} {N:List Str} {nl:Nat} {ixs:List Nat} {wi:TI} {g:TG} {tc:TT} {te:TE}
theorem jw {XN:List Str} (N:List Str) (nl:Nat) (ixs:List Nat) (hsc:X.env.scope=sc) (hXN:X.N=XN) (hc:X.calm=true) (O':qd7 sc scope=true) (hN:N.length=nl + ixs.length) (hcap':qfG nl ixs N XN scope.names=true)
  (hi:PI X tg iter wi) (hg:∀ C s0 H0 ex,PG (X.comp N scope C s0 H0 ex) tg g) (gk:qdw nl g) (ht:∀ C s0 H0 ex,qfc (X.comp N scope C s0 H0 ex) ifs tc) (he:∀ C s0 H0 ex,PE (X.comp N scope C s0 H0 ex) elt te)
  (hs:∀ x,foldedSetIterable iter X.env x=pure x:=by intro _;rfl):PE X (.ListComp elt [⟨tg,iter,ifs,0⟩] scope pos) (qeK wi g tc te nl ixs):=by
 intro pins s σ H Q I h;subst hsc hXN;have O:=qcQ O';have hcap:=qdv hcap';rw [eval_ListComp]
 have hcl:=qak (scope:=scope) (env:=X.env) fun n hn=>I.ok.has n (by
  rcases O.free _ hn rfl with z | z
  ·exact .inl z
  ·exact .inr z)
 refine wpAny_comprehension_free (use:=none) rfl hs hcl O.kind O.loc (thn (hi pins s σ H _ I h) fun v s1 h1=>thn h1 fun itv s2 h2=>?_);obtain ⟨it,fp,tn,J,H2,e,I2,T,st2,f2,hW⟩:=h2;subst e;refine qbh (Q:=Q) (RR:=fun acc C=>compPost (model X.prog X.w) X.A X.xe none (EP X pins σ Q) acc C) I2 hc O hN hcap T st2 f2 hg gk ht he hW ?_;intro D C s' H' σ' ys its n hC hD J' hv hz q;obtain ⟨m,hn,_⟩:=id J'.loc;have B:=I2.compBack f2 hC hD J' hv hz;obtain ⟨_,nD,neD,_,_⟩:=J'.pin (D,{ cls:=.type "list",data:=.seq its.toArray n }) (yK _ (yB.mpr rfl));refine ⟨m,hn,fun h' sb=>⟨.ref D,_,?_,rfl,q D nD⟩⟩;refine B.turned (it:=C) (h':=h') (t':=s'.toks) (fun b o hb e=>(sb.2 b hb).trans e) ((qe (H:=H') (a:=D) (b:=C) (o:=.lst ys) (Ye neD)).trans J'.free) (Yh (yj I2.lt hC)) (.inr (yi I2.sz hC)) (fun x c e z=>?_) (fun p hp z=>?_)
 ·obtain ⟨_,q⟩:=I2.cell x c e;exact absurd (yj q.lt (by rw [z];exact hC)) (Yt _)
 ·exact absurd (yj (yH (I2.pin p hp).1) (by rw [z];exact hC)) (Yt _)
theorem qbr {i:Nat} {y:Str} {py spos:Pos} {XN:List Str} (N:List Str) (nl:Nat) (ixs:List Nat) (hsc:X.env.scope=sc) (hXN':X.N=XN) (hc:X.calm=true) (O':qd7 sc scope=true) (hN:N.length=nl + ixs.length) (hcap':qfG nl ixs N XN scope.names=true)
  (hXN:X.N.Nodup) (hi':X.N[i]?=some y) (hy:X.env.scope.names.lookup y=some .local)
  (hi:PI X tg iter wi) (hg:∀ C s0 H0 ex,PG (X.comp N scope C s0 H0 ex) tg g) (gk:qdw nl g) (ht:∀ C s0 H0 ex,qfc (X.comp N scope C s0 H0 ex) ifs tc) (he:∀ C s0 H0 ex,PE (X.comp N scope C s0 H0 ex) elt te)
  (hsw:swapsWith (.ListComp elt [⟨tg,iter,ifs,0⟩] scope pos) (some (.Name y py)) spos.line X.env=pure true:=by rfl)
  (hs:∀ x,foldedSetIterable iter X.env x=pure x:=by intro _;rfl):PS X (.Assign [.Name y py] (.ListComp elt [⟨tg,iter,ifs,0⟩] scope pos) spos) (qeV (qeK wi g tc te nl ixs) (qbp i)):=by
 intro pins s σ H D0 I h;subst hsc hXN';have O:=qcQ O';have hcap:=qdv hcap'
 have hcl:=qak (scope:=scope) (env:=X.env) fun n hn=>I.ok.has n (by
  rcases O.free _ hn rfl with z | z
  ·exact .inl z
  ·exact .inr z)
 rw [exec_Assign_Name_used _ _ _ _ hsw];refine yr (ki (yr ?_));show wpAny _ X.A (do let _ <- comprehension (.ListComp elt [⟨tg,iter,ifs,0⟩] scope pos) scope X.env _ (newList []) false (eval iter X.env) (some (assign (.Name y py) X.env))) _ _ s;refine yr (YQ (wpAny_comprehension_free (use:=some (assign (.Name y py) X.env)) (Q:=fun _ s'=>SP X pins D0 .next s') rfl hs hcl O.kind O.loc
  (thn (hi pins s σ H _ I h) fun v s1 h1=>thn h1 fun itv s2 h2=>?_)) (fun _ s' hq=>yu (yu hq)) fun _ _ e=>e)
 obtain ⟨it,fp,tn,J,H2,e,I2,T,st2,f2,hW⟩:=h2;subst e;refine qbh (Q:=fun v H'=>qbp i v σ H' D0.nx) (RR:=fun acc C=>compPost (model X.prog X.w) X.A X.xe (some (assign (.Name y py) X.env)) (fun _ s'=>SP X pins D0 .next s') acc C) I2 hc O hN hcap T st2 f2 hg gk ht he hW ?_;intro D C s' H' σ' ys its n hC hD J' hv hz q;obtain ⟨m,hn,_⟩:=id J'.loc;have B:=I2.compBack f2 hC hD J' hv hz;obtain ⟨_,nD,neD,_,_⟩:=J'.pin (D,{ cls:=.type "list",data:=.seq its.toArray n }) (yK _ (yB.mpr rfl));show wpAny _ X.A (assign (.Name y py) X.env (.ref D)) _ _ _;refine wpAny_assign_Name (qbH (i:=i) (x:=y) (v:=.ref D) B hXN hi' (.inl hy) rfl (fun s'' B' hsb=>?_) (.inr hy));obtain ⟨a,sa,ha⟩:=hsb
 have hCa:C≠a:=by
  rintro rfl;rcases ha with z | z
  ·exact absurd (show X.env.locals < C from yj I2.lt hC) (by rw [z];exact Yt _)
  ·obtain ⟨_,q⟩:=I2.cell y C z;exact absurd (yj q.lt hC) (Yt _)
 refine ⟨m,hn.sameBut sa hCa,fun h' sb=>⟨_,_,?_,q D nD⟩⟩;refine B'.turned (it:=C) (h':=h') (t':=s''.toks) (fun b o hb e=>(sb.2 b hb).trans e) ((qe (H:=H') (a:=D) (b:=C) (o:=.lst ys) (Ye neD)).trans J'.free) (Yh (yj I2.lt hC)) (.inr (yi I2.sz hC)) (fun x c e z=>?_) (fun p hp z=>?_)
 ·obtain ⟨_,q⟩:=I2.cell x c e;exact absurd (yj q.lt (by rw [z];exact hC)) (Yt _)
 ·exact absurd (yj (yH (I2.pin p hp).1) (by rw [z];exact hC)) (Yt _)
end
noncomputable def Its (x:Str):It:=⟨fun i _=>i < x.cps.size,fun i H v H'=>H'=H/\∃ c,x.cps[i]?=some c/\v=.str ⟨#[c]⟩,fun i _=>i=x.cps.size⟩
theorem qcS {K:yg} {t:Tok} (W:∀ A:Around,A.handled=none->Walks P w A it [it] [it] x.cps.size (SignAt x) fun i h=>h.IsStrIter it T x t i)
  (sf:∀ (A:Around) (i:Nat) (s:Shared) (Q:Value->Shared->Prop) (E:Value->Shared->Prop),s.heap.IsStrIter it T x t i->Q (.ref it) s->wpAny (model P w) A (pyIter (.ref it)) Q E s)
  (htg:∀ v,letOwnedTupleGo tg (.ref it) v=pure ()):Turn P w K tg (Its x) [it] it (fun i h=>h.IsStrIter it T x t i) where
 mem:=by simp
 obj:=fun i h st b hb=>by
  have e:b=it:=by simpa using hb
  subst e;obtain ⟨o,e,c,d⟩:=st;exact ⟨o,e,fun v z=>by rw [d] at z;cases z⟩
 keep:=fun i h h' st k=>by
  obtain ⟨o,e,r⟩:=st;exact ⟨o,k it (by simp) o e,r⟩
 item:=by
  intro X hP hw hK hc i pins s σ H E I hf st hg;subst hP hw hK;obtain ⟨f0,f1,f2,f3,f4,f5⟩:=hf it (by simp);refine (W X.A (I.ok.hd hc)).item i s _ _ hg st fun v h' tk hv st' kk=>?_;obtain ⟨c,u,hcx,rfl⟩:=hv;have I1:Inv X pins σ H { s with heap:=h',toks:=tk }:=I.turned (fun b o hb e=>kk b o (by simpa using hb) e) f0 f1 f3 f4 f5;refine ⟨_,rfl,YR (htg _) ⟨.str ⟨#[c]⟩,H,I1,⟨u,rfl⟩,⟨rfl,c,hcx,rfl⟩,st',fun b hb=>(hf b hb).1⟩⟩
 done:=by
  intro X hP hw hK hc i pins s σ H E I hf st hg;subst hP hw hK;obtain ⟨f0,f1,f2,f3,f4,f5⟩:=hf it (by simp);have e:i=x.cps.size:=hg;subst e;exact (W X.A (I.ok.hd hc)).done s _ _ st fun h' tk kk=>⟨rfl,I.turned (fun b o hb e=>kk b o (by simpa using hb) e) f0 f1 f3 f4 f5⟩
 self:=sf
section
variable {X:Cx} {tg:Expr}
end
section
variable {K:yg} {a:Addr} {xs:List V} {g:TG} {tc:TT} {te:TE} {σ':St} {H1:Hp} {Q:V->Hp->Prop}
noncomputable def qdx (J:It) (g:TG) (tc:TT) (te:TE) (σ':St) (H1:Hp) (Q:V->Hp->Prop):Prop:=
 ∃ W:Nat->Nat->List V->Hp->Prop,(∃ m,W 0 m [] H1)/\∀ i m ys H,W i m ys H ->
   (J.stop i H/\ys.length<=sizeLine/\∀ p,H p=none->Q (.ref p) (upd H p (.lst ys))) \/
   (J.go i H/\∃ M:List V->Hp->Prop,(∀ ys' H',M ys' H'->∃ m',m' < m/\W (i + 1) m' ys' H')/\∀ x H',J.yld i H x H'->g x σ' H' fun σ2 H2=>tc σ2 H2 fun b H3 =>
    if b=true then te σ2 H3 fun v H4=>ys.length < sizeLine/\M (ys++[v]) H4 else M ys H3)
theorem jo (Pv:Nat->List V->Hp->Prop) (h0:Pv 0 [] H1) (hl:∀ i ys H,i<=xs.length->Pv i ys H->SqL K H a xs)
  (hs:∀ i x ys H,xs[i]?=some x->Pv i ys H->g x σ' H fun σ2 H2=>tc σ2 H2 fun b H3=>if b=true then te σ2 H3 fun v H4=>ys.length < sizeLine/\Pv (i + 1) (ys++[v]) H4 else Pv (i + 1) ys H3)
  (hd:∀ ys H,Pv xs.length ys H->ys.length<=sizeLine/\∀ p,H p=none->Q (.ref p) (upd H p (.lst ys))):qdx (Itl K a) g tc te σ' H1 Q:=by
 refine ⟨fun i m ys H=>m=xs.length - i/\i<=xs.length/\Pv i ys H,⟨xs.length,by simp,YC _,h0⟩,?_⟩;rintro i m ys H ⟨rfl,hi,p⟩;have q:=hl i ys H hi p;by_cases hlt:i < xs.length
 ·refine .inr ⟨⟨xs,xs[i],q,by simp [hlt]⟩,Pv (i + 1),fun ys' H' p'=>⟨xs.length - (i + 1),by omega,rfl,hlt,p'⟩,fun x H' y=>?_⟩;obtain ⟨e,y⟩:=y;subst e;exact hs i x ys _ (y xs q) p
 ·have e:i=xs.length:=by omega
  subst e;exact .inl ⟨⟨xs,q,yh _⟩,hd ys H p⟩
theorem jT {lo:Int} (Pv:Nat->List V->Hp->Prop) (h0:Pv 0 [] H1)
  (hs:∀ i ys H,i < n->Pv i ys H->g (.int (lo + i)) σ' H fun σ2 H2=>tc σ2 H2 fun b H3=>if b=true then te σ2 H3 fun v H4=>ys.length < sizeLine/\Pv (i + 1) (ys++[v]) H4 else Pv (i + 1) ys H3)
  (hd:∀ ys H,Pv n ys H->ys.length<=sizeLine/\∀ p,H p=none->Q (.ref p) (upd H p (.lst ys))):qdx (Itr lo n) g tc te σ' H1 Q:=by
 refine ⟨fun i m ys H=>m=n - i/\i<=n/\Pv i ys H,⟨n,by simp,YC _,h0⟩,?_⟩;rintro i m ys H ⟨rfl,hi,p⟩;by_cases hlt:i < n
 ·refine .inr ⟨hlt,Pv (i + 1),fun ys' H' p'=>⟨n - (i + 1),by omega,rfl,hlt,p'⟩,fun x H' y=>?_⟩;obtain ⟨e,y⟩:=y;subst e y;exact hs i ys _ hlt p
 ·have e:i=n:=by omega
  subst e;exact .inl ⟨yh _,hd ys H p⟩
theorem comp_str (Pv:Nat->List V->Hp->Prop) (h0:Pv 0 [] H1)
  (hs:∀ i c ys H,x.cps[i]?=some c->Pv i ys H->g (.str ⟨#[c]⟩) σ' H fun σ2 H2=>tc σ2 H2 fun b H3=>if b=true then te σ2 H3 fun v H4=>ys.length < sizeLine/\Pv (i + 1) (ys++[v]) H4 else Pv (i + 1) ys H3)
  (hd:∀ ys H,Pv x.cps.size ys H->ys.length<=sizeLine/\∀ p,H p=none->Q (.ref p) (upd H p (.lst ys))):qdx (Its x) g tc te σ' H1 Q:=by
 refine ⟨fun i m ys H=>m=x.cps.size - i/\i<=x.cps.size/\Pv i ys H,⟨x.cps.size,by simp,YC _,h0⟩,?_⟩;rintro i m ys H ⟨rfl,hi,p⟩;by_cases hlt:i < x.cps.size
 ·refine .inr ⟨hlt,Pv (i + 1),fun ys' H' p'=>⟨x.cps.size - (i + 1),by omega,rfl,hlt,p'⟩,fun v H' y=>?_⟩;obtain ⟨e,c,hc,y⟩:=y;subst e y;exact hs i c ys _ hc p
 ·have e:i=x.cps.size:=by omega
  subst e;exact .inl ⟨rfl,hd ys H p⟩
end
noncomputable def qb1:V->Option Value
 | .ty n=>some (.type n)
 | .ref a=>some (.ref a)
 | _=>none
theorem qbi {c:Value} (h:qb1 y=some c) (r:RelV y u):u=c:=by
 cases y with
 | ty n=>cases h;exact r
 | ref a=>cases h;exact r
 | _=>cases h
section
variable {X:Cx} {pins:List (Addr×Obj)} {σ:St} {H:Hp} {s:Shared}
theorem TyOf.kit {x:V} {t:Value} (I:Inv X pins σ H s) (rx:RelV x u) (ty:TyOf X.K H x t):∃ P:Heap->Prop,PySem.W.KitX X.K u t P/\P s.heap/\u≠.builtin "__main__.__loader__#opaque":=by
 cases ty with
 | non=>cases (show u=Value.none from rx);exact ⟨_,PySem.W.kitx_none,YL,(fun z=>nomatch z)⟩
 | bl y=>cases (show u=Value.bool y from rx);exact ⟨_,PySem.W.kitx_bool,YL,(fun z=>nomatch z)⟩
 | int i=>obtain ⟨t,q⟩:=(show ∃ t,u=Value.int i t from rx);cases q;exact ⟨_,PySem.W.kitx_int,YL,(fun z=>nomatch z)⟩
 | str y=>obtain ⟨t,q⟩:=(show ∃ t,u=Value.str y t from rx);cases q;exact ⟨_,PySem.W.kitx_str,YL,(fun z=>nomatch z)⟩
 | flt y=>obtain ⟨t,q⟩:=(show ∃ t,u=Value.float y t from rx);cases q;exact ⟨_,PySem.W.kitx_float,YL,(fun z=>nomatch z)⟩
 | @lst a xs ea =>
  cases (show u=Value.ref a from rx);obtain ⟨_,_,n,_,h1⟩:=(show ObjOk X.prog X.w H s.heap a (.lst xs) from I.hok a _ ea);exact ⟨_,PySem.W.kitx_list,⟨_,h1,rfl⟩,(fun z=>nomatch z)⟩
 | @frz a ob xs ea =>
  cases (show u=Value.ref a from rx);obtain ⟨_,_,_,n,_,h1⟩:=(show ObjOk X.prog X.w H s.heap a (.frz ob (.lst xs)) from I.hok a _ ea);exact ⟨_,PySem.W.kitx_list,⟨_,h1,rfl⟩,(fun z=>nomatch z)⟩
 | @tup a xs ea =>
  cases (show u=Value.ref a from rx);obtain ⟨_,_,_,p⟩:=(show ObjOk X.prog X.w H s.heap a (.tup xs) from I.hok a _ ea);obtain ⟨o,h1,h2,_⟩:=p;exact ⟨_,PySem.W.kitx_tuple,⟨o,h1,h2⟩,(fun z=>nomatch z)⟩
 | @dK a kvs ea =>
  cases (show u=Value.ref a from rx);obtain ⟨_,_,vs,_,p⟩:=(show ObjOk X.prog X.w H s.heap a (.dK kvs) from I.hok a _ ea);obtain ⟨o,es,ep,h1,h2,_⟩:=p;exact ⟨_,PySem.W.kitx_dict,⟨o,h1,h2.1⟩,(fun z=>nomatch z)⟩
 | @dT a kvs ea =>
  cases (show u=Value.ref a from rx);obtain ⟨_,_,xs,_,o,es,ep,h1,h2,_⟩:=(show ObjOk X.prog X.w H s.heap a (.dT kvs) from I.hok a _ ea);exact ⟨_,PySem.W.kitx_dict,⟨o,h1,h2.1⟩,(fun z=>nomatch z)⟩
 | @ins a C dx fs ea cl ha hn htk hm =>
  cases (show u=Value.ref a from rx);obtain ⟨mA,O,_⟩:=qav I.hok ea;obtain ⟨od,J,_⟩:=O.look;exact ⟨_,PySem.W.kitx_own (cl.get _) cl.hd ha hn htk hm,J,(fun z=>nomatch z)⟩
end
section
variable {X:Cx}
theorem qaX:∀ {ys:List V} {cs us:List Value},ys.map qb1=cs.map some->Vals ys us->us=cs
 | [],[],_,_,.nil=>rfl
 | [],_::_,_,h,_=>by cases h
 | y::ys,[],_,h,_=>by cases h
 | y::ys,c::cs,_,h,.cons r t=>by
  rw [Yy,Yy] at h
  injection h with h1 h2
  rw [qbi h1 r,qaX h2 t]
theorem qcT:∀ {bs:List Bool} {us:List Value},Vals (bs.map V.bl) us->us=bs.map Value.bool
 | [],_,.nil=>rfl
 | b::bs,_,.cons r t=>by
  have e:=qcT t;rw [e];cases r;rfl
noncomputable def qf4 (K:yg):List V->Hp->VK->Prop:=fun xs H Q=>∃ (p:Addr) (bs:List Bool),xs=[.ref p]/\SqL K H p (bs.map V.bl)/\Q (.bl (bs.all id)) H
theorem call_all (hc:X.calm=true):zi X (.builtin "all") (qf4 X.K):=by
 intro pins s σ H xs us Q I r h;obtain ⟨p,bs,rfl,hp,q⟩:=h;obtain ⟨u,rfl,ru⟩:=qaR r;cases ru;obtain ⟨its,rv,pl,hz⟩:=I.list hp;have e:=qcT rv;subst e;have hh:X.A.in1.handled=none:=I.ok.hd hc;refine call_all_walk (X8 pl.isList ?_)
 have hne:p≠s.heap.objs.size:=by
  obtain ⟨o,ho,_⟩:=pl.isList;exact yF (yH ho)
 refine ⟨s.heap.objs.size,_,_,_,_,_,fun i=>(bs[i]?).getD false,rfl,Walks.list hh s.heap.objs.size p hne (bs.map Value.bool).toArray,⟨⟨_,yO _ rfl,rfl,rfl⟩,pl.isList.at fun o e=>yv _ e⟩,fun i v s Q E hv hq=>?_,fun h' tk hk=>?_⟩
 ·have hv':(bs.map Value.bool)[i]?=some v:=by simpa using hv
  rw [yd] at hv'
  cases e:bs[i]? with
  | none=>rw [e] at hv';cases hv'
  | some b =>
   rw [e] at hv';cases hv';have hq':Q ((bs[i]?).getD false) s:=hq;rw [e] at hq';exact yu hq'
 ·have e:((List.range (bs.map Value.bool).toArray.size).all fun i=>(bs[i]?).getD false)=bs.all id:=by
   rw [yw,ya]
   have key:∀ bs:List Bool,((List.range bs.length).all fun i=>(bs[i]?).getD false)=bs.all id:=by
    intro bs
    induction bs with
    | nil=>rfl
    | cons b r ih =>
     rw [yC,List.range_succ_eq_map,Xy,kF,Xy,<- ih];rfl
   exact key bs
  rw [e];refine ⟨.bl _,H,?_,rfl,q⟩;have I1:Inv X pins σ H { s with heap:=s.heap.push { cls:=.type "list_iterator",data:=.fields #[.ref p,.int 0 0] } }:=I.kept (t':=s.toks) fun b o e=>yv _ e;have nf:=I.fpOk (b:=s.heap.objs.size) (yh _) (I.hok.fresh (yh _));exact I1.turned (it:=s.heap.objs.size) (h':=h') (t':=tk) (fun b o hb e=>hk b o (by simpa using hb) e) nf.1 nf.2.1 nf.2.2.2.1 nf.2.2.2.2.1 nf.2.2.2.2.2
theorem op_le_str:OpR X (compareOp .LtE) (fun x y H Q=>∃ i j,x=.str i/\y=.str j/\Q (.bl (!decide (j.cps.toList < i.cps.toList))) H):=by
 intro pins s σ H x y v u Q I rx ry h;obtain ⟨i,j,rfl,rfl,q⟩:=h;obtain ⟨t,rfl⟩:=rx;obtain ⟨t',rfl⟩:=ry;exact PySem.P.le_str (qcM I q (by rfl))
noncomputable def qfH:R2:=fun x y H Q=>match x,y with
 | .int i,.int j=>Q (.bl (decide (i<=j))) H
 | .str i,.str j=>Q (.bl (!decide (j.cps.toList < i.cps.toList))) H
 | _,_=>False
theorem qfw:OpR X (compareOp .LtE) qfH:=by
 intro pins s σ H x y v u Q I rx ry h
 cases x with
 | int i=>cases y with
  | int j=>exact op_le pins s σ H _ _ v u Q I rx ry ⟨i,j,rfl,rfl,h⟩
  | _=>exact False.elim h
 | str i=>cases y with
  | str j=>exact op_le_str pins s σ H _ _ v u Q I rx ry ⟨i,j,rfl,rfl,h⟩
  | _=>exact False.elim h
 | _=>exact False.elim h
theorem op_is_bl:OpR X (compareOp .Is) (fun x y H Q=>∃ i j,x=.bl i/\y=.bl j/\Q (.bl (i==j)) H):=by
 intro pins s σ H x y v u Q I rx ry h;obtain ⟨i,j,rfl,rfl,q⟩:=h;cases rx;cases ry;exact wpAny_is_plain (by cases i<;>cases j<;>rfl) (qcM I q (by cases i<;>cases j<;>rfl))
noncomputable def qf5:R2:=fun x y H Q=>match x,y with
 | .bl i,.bl j=>Q (.bl (i==j)) H
 | x,.non=>Q (.bl (decide (x=.non))) H
 | _,_=>False
theorem qf6:OpR X (compareOp .Is) qf5:=by
 intro pins s σ H x y v u Q I rx ry h
 cases y with
 | non=>exact op_isN pins s σ H x _ v u Q I rx ry ⟨rfl,by cases x<;>exact h⟩
 | bl j=>cases x with
  | bl i=>exact op_is_bl pins s σ H _ _ v u Q I rx ry ⟨i,j,rfl,rfl,h⟩
  | _=>exact False.elim h
 | _=>cases x<;>exact False.elim h
theorem op_rep_str:OpR X (binaryOp .Mult) (fun x y H Q=>∃ z k,x=.str z/\y=.int k/\MulOk z k/\Q (.str (Txt.mul z k)) H):=by
 intro pins s σ H x y v u Q I rx ry h;obtain ⟨z,k,rfl,rfl,hm,q⟩:=h;obtain ⟨t,rfl⟩:=rx;obtain ⟨t',rfl⟩:=ry;exact SB.mul hm fun t' k'=>⟨.str _,H,I.tok _,⟨_,rfl⟩,q⟩
noncomputable def qfd:R2:=fun x y H Q=>match x,y with
 | .int i,.int j=>CMul i j/\Q (.int (i * j)) H
 | .str z,.int k=>MulOk z k/\Q (.str (Txt.mul z k)) H
 | .ref a,.int k=>qf2 (.ref a) (.int k) H Q
 | _,_=>False
theorem qbs:OpR X (binaryOp .Mult) qfd:=by
 intro pins s σ H x y v u Q I rx ry h
 cases y with
 | int j=>cases x with
  | int i=>exact op_mul pins s σ H _ _ v u Q I rx ry ⟨i,j,rfl,rfl,h.1,h.2⟩
  | str i=>exact op_rep_str pins s σ H _ _ v u Q I rx ry ⟨i,j,rfl,rfl,h.1,h.2⟩
  | ref a=>exact qei pins s σ H _ _ v u Q I rx ry h
  | _=>exact False.elim h
 | _=>cases x<;>exact False.elim h
noncomputable def qcs (K:yg):R2:=fun x y H Q=>match x,y with
 | .int i,.int j=>Q (.int (i + j)) H
 | .str i,.str j=>i.length + j.length<=sizeLine/\Q (.str (i++j)) H
 | .ref a,.ref b=>qf1 (.ref a) (.ref b) H Q\/qe9 K (.ref a) (.ref b) H Q
 | _,_=>False
theorem u_add:OpR X (binaryOp .Add) (qcs X.K):=by
 intro pins s σ H x y v u Q I rx ry h
 cases x with
 | int i=>cases y with
  | int j=>exact op_add pins s σ H _ _ v u Q I rx ry ⟨i,j,rfl,rfl,h⟩
  | _=>exact False.elim h
 | str i=>cases y with
  | str j=>exact op_add_str pins s σ H _ _ v u Q I rx ry ⟨i,j,rfl,rfl,h.1,h.2⟩
  | _=>exact False.elim h
 | ref a=>cases y with
  | ref b=>exact h.elim (fun h=>op_cat pins s σ H _ _ v u Q I rx ry h) fun h=>op_catT pins s σ H _ _ v u Q I rx ry h
  | _=>exact False.elim h
 | _=>exact False.elim h
noncomputable def qct (K:yg):List V->Hp->VK->Prop:=fun xs H Q=>match xs with
 | [.str z]=>z.length<=sizeLine/\Q (.int z.length) H
 | [.ref p]=>(∃ ys,(SqL K H p ys\/SqT K H p ys)/\Q (.int ys.length) H)\/∃ kvs,H p=some (.dK kvs)/\Q (.int kvs.length) H
 | _=>False
theorem call_lenU:zi X (.builtin "len") (qct X.K):=by
 intro pins s σ H xs us Q I r h
 match xs,h with
 | [.str z],h=>exact call_len_str pins s σ H _ us Q I r ⟨z,rfl,h.1,h.2⟩
 | [.ref p],.inl ⟨ys,h,q⟩=>exact call_len_seq pins s σ H _ us Q I r ⟨p,ys,rfl,h,q⟩
 | [.ref p],.inr ⟨kvs,h,q⟩=>exact call_lenD pins s σ H _ us Q I r ⟨p,kvs,rfl,h,q⟩
theorem sl_str:SlR X (fun x lo hi H Q=>∃ z,x=.str z/\z.length<=sizeLine/\Q (.str (Txt.slice z lo hi)) H):=by
 intro pins s σ H x v vl vu lo hi sl Q I rx hs pl pu h;obtain ⟨z,rfl,hz,q⟩:=h;obtain ⟨t,rfl⟩:=rx;refine ⟨"str",_,F.slot_str_getitem.lookup,typeIs_str _ _ _,?_⟩
 cases pl with
 | none =>
  cases pu with
  | none=>exact xC (l:=none) (u:=none) (st:=none) hs rfl (XF ⟨yi (kG z _ _) hz,fun t' k=>⟨.str _,H,I.tok _,⟨_,rfl⟩,q⟩⟩)
  | int j uj=>exact xC (l:=none) (u:=some (j,uj)) (st:=none) hs rfl (XF ⟨yi (kG z _ _) hz,fun t' k=>⟨.str _,H,I.tok _,⟨_,rfl⟩,q⟩⟩)
 | int i ui =>
  cases pu with
  | none=>exact xC (l:=some (i,ui)) (u:=none) (st:=none) hs rfl (XF ⟨yi (kG z _ _) hz,fun t' k=>⟨.str _,H,I.tok _,⟨_,rfl⟩,q⟩⟩)
  | int j uj=>exact xC (l:=some (i,ui)) (u:=some (j,uj)) (st:=none) hs rfl (XF ⟨yi (kG z _ _) hz,fun t' k=>⟨.str _,H,I.tok _,⟨_,rfl⟩,q⟩⟩)
noncomputable def qf7 (K:yg):V->Option Int->Option Int->Hp->VK->Prop:=fun x lo hi H Q=>match x with
 | .str z=>z.length<=sizeLine/\Q (.str (Txt.slice z lo hi)) H
 | .ref a=>qf0 K (.ref a) lo hi H Q\/qfW K (.ref a) lo hi H Q
 | _=>False
theorem u_sl:SlR X (qf7 X.K):=by
 intro pins s σ H x v vl vu lo hi sl Q I rx hs pl pu h
 cases x with
 | str z=>exact sl_str pins s σ H _ v vl vu lo hi sl Q I rx hs pl pu ⟨z,rfl,h.1,h.2⟩
 | ref a=>exact h.elim (fun h=>sl_list pins s σ H _ v vl vu lo hi sl Q I rx hs pl pu h) fun h=>sl_tup pins s σ H _ v vl vu lo hi sl Q I rx hs pl pu h
 | _=>exact False.elim h
theorem qdy:∀ {ys:List Str} {us:List Value},Vals (ys.map V.str) us->StrsAre us ys
 | [],_,.nil=>.nil
 | y::ys,_,.cons r t=>by
  obtain ⟨tk,rfl⟩:=r;exact .cons y tk (qdy t)
noncomputable def qfe (K:yg):V->List V->Hp->VK->Prop:=fun x vs H Q=>∃ (z:Str) (p:Addr) (ys:List Str),x=.str z/\vs=[.ref p]/\SqL K H p (ys.map V.str)/\(ys.map (·.length)).sum + ys.length * z.length<=16777216/\Q (.str (Txt.join z ys)) H
theorem mt_join:MtR X "str.join" (qfe X.K):=by
 intro pins s σ H x vs v us Q I rx rv h;obtain ⟨z,p,ys,rfl,rfl,hp,hz,q⟩:=h;obtain ⟨t,rfl⟩:=rx;obtain ⟨u,rfl,ru⟩:=rv.one;cases ru;obtain ⟨its,r,pl,_⟩:=I.list hp;exact join_list pl.isList (by simpa using qdy r) hz fun t' k=>⟨.str _,H,I.tok _,⟨_,rfl⟩,q⟩
noncomputable def qfI (K:yg) (te:TE):TI:=fun σ H R=>te σ H fun v H1=>match v with
 | .str x=>R (Its x) H1
 | .ref a=>((∃ xs,SqL K H1 a xs)/\R (Itl K a) H1)\/((∃ xs,SqT K H1 a xs)/\R (Itt K a) H1)
 | _=>False
theorem pi_any {e:Expr} (he:PE X e te) (htg:∀ it v,letOwnedTupleGo tg it v=pure ():=by intro _ _;rfl):PI X tg e (qfI X.K te):=by
 intro pins s σ H R I h;refine thn (he pins s σ H _ I h) fun v s1 ⟨y,H1,I1,r1,q1⟩=>?_
 cases y with
 | str x =>
  obtain ⟨t,rfl⟩:=r1
  have fp:∀ b∈[s1.heap.objs.size],qcm X pins H1 b:=fun b hb=>by
   have e:b=s1.heap.objs.size:=by simpa using hb
   subst e;exact I1.fpOk (yh _) (I1.hok.fresh (yh _))
  cases ha:x.cps.all (· < 128)
  ·exact wpAny_pyIter_wide ha ⟨s1.heap.objs.size,[s1.heap.objs.size],_,_,H1,rfl,I1.kept (t':=s1.toks) fun b o e=>yv _ e,
    qcS (T:="str_iterator") (fun A hA=>Walks.strWide hA _ x t) (fun A i s Q E st h=>wpAny_pyIter_striter_wide st h) (htg _),⟨_,yO _ rfl,rfl,rfl⟩,fp,q1⟩
  ·exact wpAny_pyIter_ascii ha ⟨s1.heap.objs.size,[s1.heap.objs.size],_,_,H1,rfl,I1.kept (t':=s1.toks) fun b o e=>yv _ e,
    qcS (T:="str_ascii_iterator") (fun A hA=>Walks.strAscii hA _ x t) (fun A i s Q E st h=>wpAny_pyIter_striter_ascii st h) (htg _),⟨_,yO _ rfl,rfl,rfl⟩,fp,q1⟩
 | ref a =>
  cases r1
  have fp:∀ b∈[s1.heap.objs.size],qcm X pins H1 b:=fun b hb=>by
   have e:b=s1.heap.objs.size:=by simpa using hb
   subst e;exact I1.fpOk (yh _) (I1.hok.fresh (yh _))
  rcases q1 with ⟨⟨xs,hq⟩,q⟩ | ⟨⟨xs,hq⟩,q⟩
  ·obtain ⟨its,rv,p,hz⟩:=I1.list hq;exact X8 p.isList ⟨s1.heap.objs.size,[s1.heap.objs.size],_,_,H1,rfl,I1.kept (t':=s1.toks) fun b o e=>yv _ e,qbL a _,⟨_,yO _ rfl,rfl,rfl⟩,fp,q⟩
  ·obtain ⟨its,rv,p,hz⟩:=I1.tuple hq;exact wpAny_pyIter_tuple (show s1.heap.IsTuple a its.toArray from p) ⟨s1.heap.objs.size,[s1.heap.objs.size],_,_,H1,rfl,I1.kept (t':=s1.toks) fun b o e=>yv _ e,turn_tuple a _,⟨_,yO _ rfl,rfl,rfl⟩,fp,q⟩
 | _=>exact False.elim q1
end
section
variable {D:Ends} {σ:St} {H:Hp} {Q:VK} {QT:Bool->Hp->Prop} {QA:List V->Hp->Prop} {t u:TS} {te ta tb tc:TE} {c c':TT} {tr tas:TA} {r r':R2} {K:yg}
theorem vSeq (h:t { D with nx:=u D } σ H):qfA t u D σ H:=h
theorem vAsg {i:Nat} (h:te σ H fun x H1=>D.nx (σ.set i (some x)) H1):qeV te (qbp i) D σ H:=h
theorem vAsgS {to ti:TE} {s:qe4} (h:te σ H fun x H1=>to σ H1 fun o H2=>ti σ H2 fun i H3=>s o i x H3 fun H4=>D.nx σ H4):qeV te (qfR to ti s) D σ H:=h
theorem vIfS (h:c σ H fun b H1=>if b=true then t D σ H1 else u D σ H1):qfO c t u D σ H:=h
theorem vRet (h:te σ H D.rt):qfN te D σ H:=h
theorem vRetN (h:D.rt .non H):qe3 D σ H:=h
theorem vDrop (h:te σ H fun _ H1=>D.nx σ H1):qe2 te D σ H:=h
theorem vNext (h:D.nx σ H):qe1 D σ H:=h
theorem vC (h:Q v H):tC v σ H Q:=h
theorem vVar {i:Nat} (e:σ[i]?=some (some v)) (h:Q v H):qfz i σ H Q:=⟨v,e,h⟩
theorem vOp (h:ta σ H fun x H1=>tb σ H1 fun y H2=>r x y H2 Q):tOp r ta tb σ H Q:=h
theorem vUn {f:V->Hp->VK->Prop} (h:ta σ H fun x H1=>f x H1 Q):tUn f ta σ H Q:=h
theorem vChain (h:ta σ H fun x H1=>tb σ H1 fun y H2=>r x y H2 fun z H3=>∃ k,z=.bl k/\if k=true then tc σ H3 fun z2 H4=>r' y z2 H4 Q else Q (.bl false) H3):qdk r r' ta tb tc σ H Q:=h
theorem vNil (h:QA [] H):qfv σ H QA:=h
theorem vCons (h:ta σ H fun x H1=>tr σ H1 fun xs H2=>QA (x::xs) H2):qe7 ta tr σ H QA:=h
theorem vCB {f:List V->Hp->VK->Prop} (h:tas σ H fun vs H1=>f vs H1 Q):tCB f tas σ H Q:=h
theorem vCall {sp:Sp} {E:XK} (h:tas σ H fun vs H1=>sp (vs++[]) H1 Q E):qeH sp [] E tas σ H Q:=h
theorem vLst (h:tas σ H fun xs H1=>xs.length<=sizeLine/\∀ p,H1 p=none->Q (.ref p) (upd H1 p (.lst xs))):qfV tas σ H Q:=h
theorem vTup (h:tas σ H fun xs H1=>xs.length<=sizeLine/\∀ p,H1 p=none->Q (.ref p) (upd H1 p (.tup xs))):qfU tas σ H Q:=h
theorem vTest (h:te σ H fun x H'=>∃ k,x=.bl k/\QT k H'):qeG te σ H QT:=h
theorem vB (h:te σ H fun x H'=>∃ k,x=.bl k/\QT k H'):tB te σ H QT:=h
theorem vNot (h:c σ H fun b H1=>QT (!b) H1):qfM c σ H QT:=h
theorem vAnd (h:c σ H fun b H1=>if b=true then c' σ H1 QT else QT false H1):qfL c c' σ H QT:=h
theorem vOr (h:c σ H fun b H1=>if b=true then QT true H1 else c' σ H1 QT):tOr c c' σ H QT:=h
theorem vAndV (h:ta σ H fun x H1=>∃ k,x=.bl k/\if k=true then tb σ H1 Q else Q (.bl false) H1):qeZ ta tb σ H Q:=h
theorem vOrV (h:ta σ H fun x H1=>∃ k,x=.bl k/\if k=true then Q (.bl true) H1 else tb σ H1 Q):tOrV ta tb σ H Q:=h
theorem vNotV (h:ta σ H fun x H1=>∃ k,x=.bl k/\Q (.bl (!k)) H1):qe0 ta σ H Q:=h
theorem vIf (h:c σ H fun b H1=>if b=true then ta σ H1 Q else tb σ H1 Q):tIf c ta tb σ H Q:=h
theorem vYes (h:QT true H):qf3 σ H QT:=h
theorem vI0 {g:Int->Int->V} (h:Q (g i j) H):rI0 g (.int i) (.int j) H Q:=⟨i,j,rfl,rfl,h⟩
theorem vI {C:Int->Int->Prop} {g:Int->Int->V} (hc:C i j) (h:Q (g i j) H):rI C g (.int i) (.int j) H Q:=⟨i,j,rfl,rfl,hc,h⟩
theorem vU {g:Int->V} (h:Q (g i) H):rU g (.int i) H Q:=⟨i,rfl,h⟩
theorem vEqI (h:Q (.bl (decide (i=j))) H):rEq (.int i) (.int j) H Q:=⟨rfl,by
 have e:decide (V.int i=V.int j)=decide (i=j):=by
  by_cases h:i=j
  ·subst h;simp
  ·rw [yl h,yl (fun e=>h (V.int.inj e))]
 rw [e];exact h⟩
theorem vEqB {i j:Bool} (h:Q (.bl (i==j)) H):rEq (.bl i) (.bl j) H Q:=⟨rfl,by rw [dec_bl];exact h⟩
theorem zR (hp:H p=some (.lst xs)) (ha:atI xs i=some v) (h:Q v H):rIx K (.ref p) (.int i) H Q:=.inl ⟨p,xs,i,v,rfl,rfl,SqL.of hp,ha,h⟩
theorem vIxLs (hp:SqL K H p xs) (ha:atI xs i=some v) (h:Q v H):rIx K (.ref p) (.int i) H Q:=.inl ⟨p,xs,i,v,rfl,rfl,hp,ha,h⟩
theorem qaY (hp:H p=some (.tup xs)) (ha:atI xs i=some v) (h:Q v H):rIx K (.ref p) (.int i) H Q:=.inr (.inl ⟨p,xs,i,v,rfl,rfl,SqT.of hp,ha,h⟩)
theorem vIxS {ch:Nat} (hz:z.length<=sizeLine) (ha:atI z.cps.toList i=some ch) (h:Q (.str ⟨#[ch]⟩) H):rIx K (.str z) (.int i) H Q:=.inr (.inr ⟨z,i,ch,rfl,rfl,hz,ha,h⟩)
theorem qd9 {k:Int} {j:Nat} {QH:Hp->Prop} (hp:H p=some (.lst xs)) (hj:ixN xs.length k=some j) (h:QH (upd H p (.lst (xs.set j v)))):qeJ (.ref p) (.int k) v H QH:=⟨p,xs,k,j,rfl,rfl,hp,hj,h⟩
theorem vEx {k:Bool} {P:Bool->Prop} (h:P k):∃ k',V.bl k=.bl k'/\P k':=⟨k,rfl,h⟩
theorem vLeI (h:Q (.bl (decide (i<=j))) H):qfH (.int i) (.int j) H Q:=h
theorem vLeS {i j:Str} (h:Q (.bl (!decide (j.cps.toList < i.cps.toList))) H):qfH (.str i) (.str j) H Q:=h
theorem vIsB {i j:Bool} (h:Q (.bl (i==j)) H):qf5 (.bl i) (.bl j) H Q:=h
theorem vAddI (h:Q (.int (i + j)) H):qcs K (.int i) (.int j) H Q:=h
theorem qff {i j:Str} (hz:i.length + j.length<=sizeLine) (h:Q (.str (i++j)) H):qcs K (.str i) (.str j) H Q:=⟨hz,h⟩
theorem qbt (hc:CMul i j) (h:Q (.int (i * j)) H):qfd (.int i) (.int j) H Q:=⟨hc,h⟩
theorem vLenS (hz:z.length<=sizeLine) (h:Q (.int z.length) H):qct K [.str z] H Q:=⟨hz,h⟩
theorem qeL (hp:H p=some (.lst ys)) (h:Q (.int ys.length) H):qct K [.ref p] H Q:=.inl ⟨ys,.inl (SqL.of hp),h⟩
theorem zU (hp:SqL K H p ys) (h:Q (.int ys.length) H):qct K [.ref p] H Q:=.inl ⟨ys,.inl hp,h⟩
theorem qfg (hp:H p=some (.tup ys)) (h:Q (.int ys.length) H):qct K [.ref p] H Q:=.inl ⟨ys,.inr (SqT.of hp),h⟩
theorem vSl {f:V->Option Int->Option Int->Hp->VK->Prop} {tl th:TO} (h:te σ H fun x H1=>tl σ H1 fun l H2=>th σ H2 fun u H3=>f x l u H3 Q):tSl f te tl th σ H Q:=h
theorem vNoPart (h:QO none H):qdp σ H QO:=h
theorem vPart (h:te σ H fun x H1=>∃ i,x=.int i/\QO (some i) H1):qe8 te σ H QO:=h
theorem vExI {P:Int->Prop} (h:P i):∃ j,V.int i=.int j/\P j:=⟨i,rfl,h⟩
theorem vBM (h:te σ H fun x H1=>tyV K T x H1/\tas σ H1 fun xs H2=>f x xs H2 Q):tBM K T f te tas σ H Q:=h
theorem vBM0 (h:te σ H fun x H1=>tyV K T x H1/\f x [] H1 Q):qfE K T f te σ H Q:=h
theorem vComp (h:wi σ H fun J H1=>qdx J g c te (qde nl ixs σ) H1 Q):qeK wi g c te nl ixs σ H Q:=h
theorem vFor (h:wi σ H fun J H1=>∃ W:Nat->Nat->St->Hp->Prop,(∃ m,W 0 m σ H1)/\∀ i m σ H,W i m σ H ->
 (J.stop i H/\D.nx σ H)\/(J.go i H/\∃ N:St->Hp->Prop,(∀ σ' H',N σ' H'->∃ m',m' < m/\W (i + 1) m' σ' H')/\∀ x H',J.yld i H x H'->g x σ H' fun σ2 H2=>t { D with nx:=N,ct:=N,bk:=D.nx } σ2 H2)):qfS wi g t D σ H:=h
theorem vRng1 (h:tas σ H fun vs H1=>∃ j:Int,vs=[.int j]/\-(2 ^ 62)<=j/\j < 2 ^ 62/\R (Itr 0 j.toNat) H1):qe5 tas σ H R:=h
theorem vAny (h:te σ H fun v H1=>match v with
 | .str x=>R (Its x) H1
 | .ref a=>((∃ xs,SqL K H1 a xs)/\R (Itl K a) H1)\/((∃ xs,SqT K H1 a xs)/\R (Itt K a) H1)
 | _=>False):qfI K te σ H R:=h
theorem vGN {i:Nat} {QS:St->Hp->Prop} (h:QS (σ.set i (some v)) H):qbp i v σ H QS:=h
theorem atI_lt {xs:List α} (h0:0<=i) (h1:i < xs.length):∃ v,atI xs i=some v/\xs[i.toNat]?=some v:=by
 obtain ⟨n,rfl⟩:=YN h0;have hn:n < xs.length:=by omega
 exact ⟨xs[n],qA (by simp [hn]),by simp [hn]⟩
end
section
variable {X:Cx} {K:yg} {o e:Expr} {es:List Expr} {to ta:TE} {t:TA} {name f:Str} {apos cpos pos:Pos} {T id:String} {r:V->List V->Hp->VK->Prop} {tg:Expr}
theorem zr (hK:X.K=K):zi X (.builtin "len") (qct K):=by subst hK;exact call_lenU
theorem qeM (hK:X.K=K) (hc:X.calm=true):zi X (.builtin "all") (qf4 K):=by subst hK;exact call_all hc
theorem qel (hK:X.K=K):SlR X (qf7 K):=by subst hK;exact u_sl
theorem zc (hK:X.K=K):OpR X (binaryOp .Add) (qcs K):=by subst hK;exact u_add
theorem qem (hK:X.K=K):MtR X "str.join" (qfe K):=by subst hK;exact mt_join
theorem jg (hK:X.K=K) (he:PE X e ta) (htg:∀ it v,letOwnedTupleGo tg it v=pure ():=by intro _ _;rfl):PI X tg e (qfI K ta):=by subst hK;exact pi_any he htg
theorem k_bm0 (hK:X.K=K) (pa:PlainAttrs T) (slot:Slot T name id) (hty:typeOf (.builtin id)=pure (.type "method_descriptor")) (hm:MtR X id r) (ho:PE X o to)
  (hbase:attributeBase o name X.env (eval o X.env)=eval o X.env:=by rfl) (hline:(apos.endLine==cpos.line)=true:=by rfl):PE X (.Call (.Attribute o name apos) [] [] cpos) (qfE K T r to):=by
 subst hK;exact pe_bm0 pa slot hty hm ho hbase hline
theorem qbj (hK:X.K=K) (pa:PlainAttrs T) (slot:Slot T name id) (hty:typeOf (.builtin id)=pure (.type "method_descriptor")) (hm:MtR X id r) (ho:PE X o to) (ha:PA X (e::es) t)
  (hbase:attributeBase o name X.env (eval o X.env)=eval o X.env:=by rfl)
  (hfew:((backTo cpos (starEach (e::es) X.env)).all (fun x=>!x.1)&&(backToKw cpos (keywordEach [] X.env)).all (fun x=>x.1.isSome)
   && decide ((e::es).length + ([]:List Keyword).length + (if ([]:List Keyword).isEmpty then 0 else 1) < 30))=true:=by rfl)
  (hline:(apos.endLine==cpos.line)=true:=by rfl) (hs:starEach (e::es) X.env=(false,eval e X.env)::starEach es X.env:=by rfl) (hplain:(backTo cpos (starEach es X.env)).any (·.1)=false:=by rfl) :
  PE X (.Call (.Attribute o name apos) (e::es) [] cpos) (tBM K T r to t):=by
 subst hK;exact pe_bm pa slot hty hm ho ha hbase hfew hline hs hplain
end
structure DefOk (P:Program) (w:World) (K:yg) (mg:Str->Option Value) (base:Heap) (CX:CXT) (k:Nat) (x:Str) (ps:List Str) (sp:Sp):Prop where
 ex:∃ f fd,FnOk P w K mg base CX k f fd ps sp/\mg x=some (.ref f)/\PySem.W.keepIn K (.ref f)=true/\Binds K fd ps []
section
variable {X:Cx} {CX:CXT} {k:Nat} {ps:List Str} {sp:Sp} {E:XK} {x:Str} {p pos:Pos} {e:Expr} {es:List Expr} {t:TA}
theorem qt (D:DefOk X.prog X.w X.K X.mg X.base CX k x ps sp) (hr:Room k X.A) (hx:qaz CX X E) (ha:PA X (e::es) t) (hg:Gl X x:=by rfl) (hdb:(x==("__debug__":Str))=false:=by decide)
  (he:starEach (e::es) X.env=(false,eval e X.env)::starEach es X.env:=by rfl) (hpl:(backTo pos (starEach es X.env)).any (·.1)=false:=by rfl):PE X (.Call (.Name x p) (e::es) [] pos) (qeH sp [] E t):=by
 obtain ⟨f,fd,F,hm,hk,hb⟩:=D.ex;exact pe_call F hr hg hm hk hb .nil hx ha hdb he hpl
theorem qbu (hg:Gl X x) (hm:∃ tk,X.mg x=some (.int i tk)) (hd:(x==("__debug__":Str))=false:=by decide):PE X (.Name x pos) (tC (.int i)):=by
 obtain ⟨tk,hm⟩:=hm;exact pe_glob hg hm ⟨tk,rfl⟩ hd
end
noncomputable def isaT (t c:String):Bool:=t==c||(t=="bool"&&c=="int")
theorem zl (K:yg):∀ t∈["NoneType","bool","int","str","list","tuple","dict"],∀ c∈["bool","int","str","list","tuple","dict"],PySem.W.kitOne K (.type t) (.type c)=some (isaT t c):=by
 intro t ht c hc;simp only [yx,y0,YU] at ht hc;rcases ht with rfl | rfl | rfl | rfl | rfl | rfl | rfl<;>rcases hc with rfl | rfl | rfl | rfl | rfl | rfl<;>rfl
noncomputable def qen:List Value->Bool
 | [.type a,.type b,.type c,.type d]=>a=="ValueError"&&b=="Exception"&&c=="BaseException"&&d=="object"
 | .ref _::r=>qen r
 | _=>false
noncomputable def xcIn (K:yg) (C:Addr):Bool:=match K.lookup C with
 | some ⟨.type "type",_,.cls cd,sl⟩=>(match cd.mro,sl.toList with
  | .ref D::bm,[_,_,_,_,some (.builtin n),_]=>D==C&&!cd.hasDel&&qen bm&&n=="ValueError.__new__"
  | _,_=>false)
 | _=>false
structure XAt (K:yg) (C:Addr):Prop where
 ga:PySem.W.findIn K (.ref C) "__getattribute__"=some (some (.builtin "BaseException.__getattribute__"))
 gn:PySem.W.findIn K (.ref C) "__getattr__"=some none
 bx:PySem.W.mroIn K C (.type "BaseException")=some true
 ob:PySem.W.mroIn K C (.type "object")=some true
 hd:PySem.W.hasDictIn K C=true
 cl:PySem.W.findIn K (.ref C) "__class__"=some (some (.builtin "object.__class__"))
 cg:PySem.W.specialIn K (.builtin "object.__class__") "__get__"=some (some (.builtin "getset_descriptor.__get__"))
 ct:PySem.W.takesIn K (.builtin "object.__class__")=some true
 sa:PySem.W.findIn K (.ref C) "__setattr__"=some (some (.builtin "object.__setattr__"))
 mr:(PySem.W.clsIn K C).any (fun cd=>qen cd.mro)=true
 xc:xcIn K C=true
theorem bexc_ga_slot:Slot "ValueError" "__getattribute__" "BaseException.__getattribute__":=PySem.F.attr_ValueError.ga
section
variable {prog:Program} {w:World} {A:Around} {E:Value->Shared->Prop} {s:Shared} {K:yg} {x C:Addr} {ox:Obj} {od:Option Obj} {name:Str} {v:Value}
theorem xga_value {Q:Fin->Shared->Prop} (X:K.In s.heap) (I:PySem.W.InstAt s.heap x ox C od) (hf:PySem.W.findObj K C od name=some (.value v)) (h:Q (.done (.ret v)) s) :
  wpAny (model prog w) A (Builtin.«object.__getattribute__» ⟨[.ref x,.str name tk],[]⟩) Q E s:=by
 have F:=PySem.W.looks_find (M:=model prog w) X I hf;refine yr (yu (yr (yu (yr (I.type.here (yr (F.here ?_)))))));exact yu h
theorem xga_call {R:Result->Shared->Prop} (X:K.In s.heap) (I:PySem.W.InstAt s.heap x ox C od) (hb:PySem.W.mroIn K C (.type "BaseException")=some true)
  (h:wpAny (model prog w) A.in1 (Builtin.«object.__getattribute__» ⟨[.ref x,.str name tk],[]⟩) (fun fin s'=>match fin with | .done f=>R (.ok f) s' | .again c'=>c'.quiet=true/\codeAny (model prog w) A c' R s') (fun e s'=>R (.error e) s') s) :
  codeAny (model prog w) A (.call (.builtin "BaseException.__getattribute__") ⟨[.ref x,.str name tk],[]⟩) R s:=by
 refine xX bexc_ga_slot.plain PySem.F.entry_bexc_ga ?_;exact @PySem.W.check_slot (model prog w) _ _ s "BaseException.__getattribute__" "BaseException" "__getattribute__" (.ref x) [.str name tk] [] _ (by decide +kernel) (by decide +kernel) (I.type.andThen (xt X hb)) (PySem.F.args_bexc_ga _ _) h
theorem qdz {fill:Bool} {Q:Value->Shared->Prop} (X:K.In s.heap) (I:PySem.W.InstAt s.heap x ox C od) (c:XAt K C)
  (h:wpAny (model prog w) A.in1 (Builtin.«object.__getattribute__» ⟨[.ref x,.str name tk],[]⟩) (fun fin s'=>match fin with | .done (.ret v)=>wpAny (model prog w) A (handedOut v) Q E s' | _=>False) (fun _ _=>False) s) :
  wpAny (model prog w) A (getAttrBy (.ref x) (.str name tk) fill expr) Q E s:=by
 unfold getAttrBy;refine Yg (yr (I.type.here (yr ((YY X c.ga).here ?_))))
 have e1:(onTheHeap (Value.ref C)&&Value.builtin "BaseException.__getattribute__"==Value.builtin "object.__getattribute__")=false:=by
  rw [show (Value.builtin "BaseException.__getattribute__"==Value.builtin "object.__getattribute__")=false by decide +kernel];rfl
 dsimp only;rw [e1,yy (by decide)];unfold getAttrByItsOwn hookBefore;rw [yE (show onTheHeap (Value.ref C)=true from rfl)];refine yr ((YY X c.gn).here (yr (km (Yg ?_))));have e2:(expr&&onTheHeap (Value.builtin "BaseException.__getattribute__"))=false:=by cases expr<;>rfl
 unfold callGetattribute;rw [e2,yy (by decide)];unfold boundAndCalled;rw [bexc_ga_slot.bind];refine yr (yu ?_);show wpAny _ _ (call (.builtin "BaseException.__getattribute__") [.ref x,.str name tk]) _ _ _;refine XX (xga_call X I c.bx (YQ h (fun fin s' z=>?_) fun _ _ z=>z.elim));rcases fin with (_ | _ | _ | _) | _<;>first | exact z | exact z.elim
theorem xget {Q:Value->Shared->Prop} (X:K.In s.heap) (I:PySem.W.InstAt s.heap x ox C od) (c:XAt K C) (hf:PySem.W.findObj K C od name=some (.value v)) (hh:PySem.W.handedIn v=true)
  (h:Q v { s with toks:=s.toks + 1 }):wpAny (model prog w) A (getAttr (.ref x) name expr) Q E s:=by
 unfold getAttr;refine yr (wpAny_mkText (qdz (s:={ s with toks:=s.toks + 1 }) X I c (xga_value (s:={ s with toks:=s.toks + 1 }) X I hf ?_)));show wpAny _ _ (handedOut v) _ _ _;rw [PySem.W.handedOut_of hh];exact yu h
theorem xclass {Q:Option Value->Shared->Prop} (X:K.In s.heap) (I:PySem.W.InstAt s.heap x ox C od) (c:XAt K C) (hf:PySem.W.findObj K C od "__class__"=some (.bind (.builtin "getset_descriptor.__get__") (.builtin "object.__class__")))
  (h:Q (some (.ref C)) { s with toks:=s.toks + 1 }):wpAny (model prog w) A (getAttr? (.ref x) "__class__") Q E s:=by
 unfold getAttr? getAttrBy?;refine yr (wpAny_mkText (yr (km (qdz (s:={ s with toks:=s.toks + 1 }) X I c ?_))));have F:=PySem.W.looks_find (M:=model prog w) X I hf;refine yr (yu (yr (yu (yr (I.type.here (s:={ s with toks:=s.toks + 1 }) (yr (F.here (s:={ s with toks:=s.toks + 1 }) ?_)))))));show wpAny _ _ (holding [Value.builtin "object.__class__"] (call (.builtin "getset_descriptor.__get__") [.builtin "object.__class__",.ref x,.ref C])>>=ret) _ _ _;refine yr (Yg (XX (PySem.W.class_get (s:={ s with toks:=s.toks + 1 }) X I c.ob ?_)));refine yu ?_;show wpAny _ _ (handedOut (.ref C)) _ _ _;exact yu (yu h)
theorem findObj_class (c:XAt K C):PySem.W.findObj K C od "__class__"=some (.bind (.builtin "getset_descriptor.__get__") (.builtin "object.__class__")):=by
 obtain ⟨cd,hc,_⟩:=xw c.hd;unfold PySem.W.findObj;rw [hc,Option.bind_some,c.cl,Option.bind_some];simp [c.cg,c.ct]
theorem qcU (c:XAt K C):PySem.W.KitX K (.ref x) (.ref C) (fun h=>PySem.W.InstAt h x ox C od) where
 ty:=fun _ _ _ I=>I.type
 it:=fun _ _ X _=>by
  obtain ⟨cd,hc,_⟩:=xw c.hd;unfold PySem.W.clsIn at hc;split at hc
  ·rename_i c1 d1 cd1 sl1 ho
   intro A' Q' E' s' k q;unfold isType loadHead;exact yr (wpAny_loadPart (k _ _ (X _ _ ho)) (yu q))
  ·cases hc
 ne:=fun h tp dd its n sl X htp=>by
  obtain ⟨cd,hc,_⟩:=xw c.hd;refine Bool.eq_false_iff.mpr fun q=>?_;have e:C=tp:=Value.ref.inj (Ym.mp q);subst e;unfold PySem.W.clsIn at hc;split at hc
  ·rename_i c1 d1 cd1 sl1 ho
   have z:=(X _ _ ho).symm.trans htp;cases z
  ·cases hc
 ca:=fun X I k=>xclass X I c (findObj_class c) k
end
theorem qb2 {r:List Value} (e:qen (.ref c::r)=true):qen r=true:=by
 cases r with
 | nil=>cases e
 | cons a r=>exact e
theorem qb3:∀ {l:List Value},qen l=true->∃ rs:List Addr,l=rs.map Value.ref++[.type "ValueError",.type "Exception",.type "BaseException",.type "object"]
 | [],e=>by cases e
 | .ref c::r,e=>by
  obtain ⟨rs,q⟩:=qb3 (qb2 e);exact ⟨c::rs,by rw [q];rfl⟩
 | .type a::r,e=>by
  match r,e with
  | [.type b,.type c,.type d],e =>
   simp only [qen,yT,Ym] at e;obtain ⟨⟨⟨rfl,rfl⟩,rfl⟩,rfl⟩:=e;exact ⟨[],rfl⟩
theorem refuse_exc (self:Value) {l:List Value} (e:qen l=true):refuseLoop self "__setattr__" l=pure ():=by
 obtain ⟨rs,rfl⟩:=qb3 e
 induction rs with
 | nil=>exact PySem.F.store_ValueError.passes self
 | cons c rs ih=>rw [Yy,kt,refuseLoop_ref];exact ih (qb2 e)
section
variable {prog:Program} {w:World} {A:Around} {E:Value->Shared->Prop} {s:Shared} {K:yg} {x C:Addr} {name:Str} {v:Value} {R:Result->Shared->Prop}
theorem xosa (X:K.In s.heap) (I:PySem.W.InstAt s.heap x ox C od) (c:XAt K C) (n:NoAttr K C name)
  (h:wpAny (model prog w) A.in1 (Builtin.ObjectAttr.storeInOwnDict (.ref x) (.ref C) (.str name tk) name v false)
   (fun fin s'=>match fin with | .done f=>R (.ok f) s' | .again c'=>c'.quiet=true/\codeAny (model prog w) A c' R s') (fun e s'=>R (.error e) s') s) :
  codeAny (model prog w) A (.call (.builtin "object.__setattr__") ⟨[.ref x,.str name tk,v],[]⟩) R s:=by
 have SF:=PySem.F.store_object;obtain ⟨cd,hc,ho⟩:=xw c.mr;have hm:PySem.W.Looks (model prog w) s.heap (mroOf (.ref C)) cd.mro:=(XS X hc).andThen .now;refine xX SF.slot.plain SF.entry (@PySem.W.check_slot (model prog w) _ _ s "object.__setattr__" "object" "__setattr__" (.ref x) [.str name tk,v] [] _ SF.kind SF.split (I.type.andThen (xt X c.ob)) (SF.args (.ref x) (.str name tk) v) ?_);rw [PySem.W.osa_eq,refuse_eq];refine yr (yr (I.type.here (yr (hm.here ?_))));rw [refuse_exc _ ho];refine yu (yr (I.type.here (yr ((YY X n).here (yr (yu ?_))))));exact h
theorem xset {vs:Array Value} (X:K.In s.heap) (hx:s.heap.get? x=some ⟨.ref C,none,.fields vs,#[]⟩) (c:XAt K C) (n:NoAttr K C name) {Q:Unit->Shared->Prop}
  (h:∀ h',h'.get? x=some ⟨.ref C,some s.heap.objs.size,.fields vs,#[]⟩->h'.Ns1 s.heap.objs.size (fun y=>if y=name then some v else none)->(∀ b o,b≠x->s.heap.get? b=some o->h'.get? b=some o) ->
   Q () { s with heap:=h',toks:=s.toks + 2 }):wpAny (model prog w) A (setAttr (.ref x) name v) Q E s:=by
 have I:PySem.W.InstAt s.heap x ⟨.ref C,none,.fields vs,#[]⟩ C none:=⟨hx,rfl,rfl,YL⟩;obtain ⟨cd,hc,hd⟩:=xw c.hd;refine PySem.W.set_plain X I c.sa (xosa (s:={ s with toks:=s.toks + 1 }) X I c n ?_);refine yr (yu (yr (yr (wpAny_loadPart hx (yr ((XS X hc).here (s:={ s with toks:=s.toks + 1 }) ?_))))));rw [hd];obtain ⟨hh,g,dr,tk,os⟩:=s;show wpAny _ _ (alloc { cls:=.type "dict",data:=.dict #[] }>>=fun d=>update x (fun o=>{ cls:=o.cls,dict:=some d,data:=o.data,slots:=o.slots })>>=fun _=>pure (some d)) _ _ _;have hxs:x≠hh.objs.size:=yF (yH hx);have hx1:=yv { cls:=.type "dict",data:=.dict #[] } hx;refine yr (wpAny_alloc' (yr (wpAny_update' hx1 (yu ?_))));have hx2:=YT (fun o:Obj=>{ cls:=o.cls,dict:=some hh.objs.size,data:=o.data,slots:=o.slots }) hx1 rfl;have hd2:=(XT (hh.push { cls:=.type "dict",data:=.dict #[] }) hh.objs.size x (fun o:Obj=>{ cls:=o.cls,dict:=some hh.objs.size,data:=o.data,slots:=o.slots }) hxs.symm).trans (Heap.get?_push_at rfl rfl);generalize hg:(hh.push { cls:=.type "dict",data:=.dict #[] }).update x (fun o:Obj=>{ cls:=o.cls,dict:=some hh.objs.size,data:=o.data,slots:=o.slots })=h2 at hx2 hd2 ⊢;have nd:h2.Ns hh.objs.size (fun _=>none):=⟨_,#[],_,hd2,rfl,fun e he=>absurd he (by simp),fun _=>rfl⟩;show wpAny _ _ (Builtin.ObjectAttr.storeInDict hh.objs.size (.str name tk) name v) _ _ _;unfold Builtin.ObjectAttr.storeInDict Builtin.ObjectAttr.newKeyGuard;refine yr (yu (yr (wpAny_nsSet1 (Heap.Ns1.of_empty nd) fun h' n2 sb=>?_)));obtain ⟨oD,esD,epD,hoD,hdD,hcD⟩:=n2.count (PySem.Within.cons name v PySem.Within.nil);have hz:esD.size<=sizeLine:=yi hcD (by rw [yC,xm,Yx];omega);refine yr (wpAny_lookBehind hoD (by rw [hdD];exact pastItsLine_dict (X9 hz)) ?_);refine yu (h h' ((sb.2 x hxs).trans hx2) n2 fun b o hb e=>(sb.2 b (yF (yH e))).trans ?_);rw [<- hg];exact (XT _ _ _ _ hb).trans (yv _ e)
noncomputable abbrev xfs (a0:Addr):Array Value:=#[.ref a0,.none,.none,.none,.bool false,.none]
end
section
variable {prog:Program} {w:World} {A:Around} {R:Result->Shared->Prop} {E:Value->Shared->Prop} {h:Heap} {g:Array GenState} {d:Drawn} {t:Nat} {os:OsState}
variable {nm q:Str} {C N:Addr} {bs bm:List Value} {hdct:Bool} {sn:List Str} {sub:List Value} {ab:Bool} {col:Option Bool} {dd:Option Addr} {k0 k1 k2 k3 k5:Option Value}
end
noncomputable def XN (e C:Addr) (dx:Option Addr):HO:=.ext fun h=>∃ a0,h.get? e=some ⟨.ref C,dx,.fields (xfs a0),#[]⟩
noncomputable def XO (e C:Addr) (dx:Option Addr):HO:=.ext fun h=>∃ vs,h.get? e=some ⟨.ref C,dx,.fields vs,#[]⟩
theorem XN.ok {a0:Addr} (q:h.get? e=some ⟨.ref C,dx,.fields (xfs a0),#[]⟩):ObjOk P w H h e (XN e C dx):=
 ⟨⟨a0,q⟩,⟨_,q⟩,fun _ _ ⟨a,x⟩ k=>⟨a,k _ x⟩⟩
noncomputable def IsX (H:Hp) (e C:Addr) (dx:Option Addr):Prop:=H e=some (XN e C dx)\/H e=some (XO e C dx)
theorem IsX.get (q:IsX H e C dx) (hok:HOk P w H h):∃ vs,h.get? e=some ⟨.ref C,dx,.fields vs,#[]⟩:=by
 rcases q with q | q
 ·obtain ⟨⟨a,x⟩,_⟩:=(show ObjOk P w H h e (XN e C dx) from hok e _ q);exact ⟨_,x⟩
 ·obtain ⟨⟨a,x⟩,_⟩:=(show ObjOk P w H h e (XO e C dx) from hok e _ q);exact ⟨_,x⟩
section
variable {X:Cx} {pins:List (Addr×Obj)} {σ:St} {H:Hp} {s:Shared} {e C:Addr} {dx:Option Addr}
theorem qeo (I:Inv X pins σ H s) {d:Addr} {fs:List (Str×V)} (h:H d=some (.xd fs)):∃ (od:Obj) (mA:Str->Option Value),s.heap.get? d=some od/\(∀ name,PySem.W.lookIn name od=some (mA name))/\∀ f,RelO (fs.lookup f) (mA f):=by
 obtain ⟨mA,n,r⟩:=(show ObjOk X.prog X.w H s.heap d (.xd fs) from I.hok d _ h);obtain ⟨od,h1,h2⟩:=qbP n;exact ⟨od,mA,h1,h2,r⟩
end
section
variable {X:Cx} {pins:List (Addr×Obj)} {σ:St} {H:Hp} {s:Shared} {a d:Addr} {h':Heap} {o u:HO} {t':Nat}
theorem Inv.both (I:Inv X pins σ H s) (mu:Mut (H a)) (hd:s.heap.objs.size<=d) (k:∀ b v,b≠a->s.heap.get? b=some v->h'.get? b=some v) (ha:∃ v,h'.get? a=some v)
  (n1:ObjOk X.prog X.w (upd (upd H d u) a o) h' a o) (n2:ObjOk X.prog X.w (upd (upd H d u) a o) h' d u) (ne:d≠a):Inv X pins σ (upd (upd H d u) a o) { s with heap:=h',toks:=t' }:=by
 have nd:H d=none:=I.hok.fresh hd;have na:∀ b q,H b=some q->¬ Mut (some q)->b≠a:=fun b q e nm z=>by subst z;rw [e] at mu;exact nm mu
 have nn:∀ b,H b=none->b≠a:=fun b e z=>by subst z;rw [e] at mu;exact mu
 have big:∀ b v,s.heap.get? b=some v->b≠d:=fun b v e=>yF (yj (yH e) hd);have up:∀ b q,H b=some q->b≠a->upd (upd H d u) a o b=some q:=fun b q e n=>by rw [qe n,qe (qj e nd)];exact e
 refine I.un ⟨fun b v e n _ _=>k b v (nn b n) e,fun b v e n _ _=>⟨v.slots,k b v (nn b n) e⟩,fun b v e n _=>by rw [qe (nn b n),qe (big b v e)];exact n,fun b v e _=>?_,fun b xs e=>up b _ e (na b _ e fun z=>z),fun b q xs e=>up b _ e (na b _ e fun z=>z),
  fun b ps e=>⟨#[],by rw [up b _ e (na b _ e fun z=>z)];simp⟩⟩ fun b q e=>?_
 ·by_cases hb:b=a
  ·subst hb;exact ha
  ·exact ⟨v,k b v hb e⟩
 ·by_cases hb:b=a
  ·subst hb;rw [qb] at e;cases e;exact n1
  ·rw [qe hb] at e;by_cases hbd:b=d
   ·subst hbd;rw [qb] at e;cases e;exact n2
   ·rw [qe hbd] at e;refine (I.hok b q e).stay (fun c v hc r=>k c v ?_ r) (fun c r=>up c _ r (na c _ r fun z=>z)) fun c xs r=>up c _ r (na c _ r fun z=>z);rcases hc with rfl | hc
    ·exact hb
    ·exact na c _ hc fun z=>z
end
noncomputable def qfh (K:yg) (ta:TE) (f:Str):TE:=fun σ H Q=>ta σ H fun x H1=>(∃ a C dx fs v,x=.ref a/\H1 a=some (.ins C dx fs)/\Cls K C/\NoAttr K C f/\fs.lookup f=some v/\Q v H1) \/
 (∃ a C dx fs v,x=.ref a/\IsX H1 a C (some dx)/\XAt K C/\NoAttr K C f/\H1 dx=some (.xd fs)/\fs.lookup f=some v/\Q v H1)
noncomputable def qfi (K:yg) (ta tv:TE) (f:Str):TS:=fun D σ H=>tv σ H fun y H1=>ta σ H1 fun x H2=>(∃ a C dx fs,x=.ref a/\H2 a=some (.ins C dx fs)/\Cls K C/\NoAttr K C f/\fs.length < 1000 /\
  D.nx σ (upd H2 a (.ins C dx (qE f y fs)))) \/
 (∃ a C,x=.ref a/\H2 a=some (XN a C none)/\XAt K C/\NoAttr K C f/\∀ dx,H2 dx=none->D.nx σ (upd (upd H2 dx (.xd [(f,y)])) a (XN a C (some dx))))
section
variable {X:Cx} {o e value:Expr} {f:Str} {pos pos':Pos} {ta tv:TE} {K:yg}
theorem qB (hK:X.K=K) (he:PE X e ta) (hb:attributeBase e f X.env (eval e X.env)=eval e X.env):PE X (.Attribute e f pos) (qfh K ta f):=by
 subst hK;intro pins s σ H Q I h;refine attr_of hb (thn (he pins s σ H _ I h) fun u s1 ⟨x,H1,I1,rx,hx⟩=>?_);rcases hx with ⟨a,C,dx,fs,v,rfl,ea,c,n,l,q⟩ | ⟨a,C,dx,fs,v,rfl,ea,c,n,hd,l,q⟩
 ·obtain rfl:u=Value.ref a:=rx;exact getattr_ok I1 ea c n l fun u' s2 I2 ru=>⟨v,H1,I2,ru,q⟩
 ·obtain rfl:u=Value.ref a:=rx;obtain ⟨vs,hx⟩:=ea.get I1.hok;obtain ⟨od,mA,h1,h2,r⟩:=qeo I1 hd;obtain ⟨u',hu,ru⟩:=RelO.some_of (v:=v) (o:=mA f) (by rw [<- l];exact r f);exact xget I1.kIn (od:=some od) ⟨hx,rfl,rfl,h1⟩ c (PySem.W.findObj_own c.hd n rfl (by rw [h2,hu])) (qbQ ru) ⟨v,H1,I1.tok _,ru,q⟩
theorem jK (hK:X.K=K) (ha:PE X o ta) (hv:PE X value tv) (hs:swapsWith value (some (.Attribute o f pos')) pos.line X.env=pure false):PS X (.Assign [.Attribute o f pos'] value pos) (qfi K ta tv f):=by
 subst hK;intro pins s σ H D I h;refine plainObj_wpAny_Assign_Attribute (thn (hv pins s σ H _ I h) fun u s1 ⟨y,H1,I1,ry,q⟩=>thn (ha pins s1 σ H1 _ I1 q) fun ov s2 ⟨x,H2,I2,rx,hx⟩=>?_) hs;rcases hx with ⟨a,C,dx,fs,rfl,ea,c,n,l,q2⟩ | ⟨a,C,rfl,ea,c,n,q2⟩
 ·obtain rfl:ov=Value.ref a:=rx;exact setattr_ok I2 ea c n l ry fun s3 I3=>⟨σ,_,I3,q2⟩
 ·obtain rfl:ov=Value.ref a:=rx;obtain ⟨⟨a0,hx⟩,_⟩:=(show ObjOk X.prog X.w H2 s2.heap a (XN a C none) from I2.hok a _ ea);refine xset I2.kIn hx c n fun h' g1 g2 g3=>?_;have nd:H2 s2.heap.objs.size=none:=I2.hok.fresh (yh _);have ne:s2.heap.objs.size≠a:=Yh (yH hx);refine ⟨σ,_,I2.both (o:=XN a C (some s2.heap.objs.size)) (u:=.xd [(f,y)]) (by rw [ea];exact YL) (yh _) g3 ⟨_,g1⟩ (XN.ok g1) ⟨_,g2,fun g=>?_⟩ ne,q2 _ nd⟩;by_cases hg:g=f
  ·subst hg;simp only [List.lookup,Y9,Xm];exact ry
  ·have hb:(g==f)=false:=YB.mpr hg;simp only [List.lookup,hb,yy hg];exact YL
end
noncomputable def tXMake (C:Addr) (sp:Sp) (E:XK) (t:TA):TE:=fun σ H Q=>t σ H fun vs H1=>vs.length<=1000/\∀ x,H1 x=none->sp (.ref x::vs) (upd H1 x (XN x C none)) (fun v H2=>v=.non/\Q (.ref x) H2) E
structure XMk (K:yg) (C f:Addr):Prop where
 at_:XAt K C
 init:PySem.W.findIn K (.ref C) "__init__"=some (some (.ref f))
 fn:PySem.W.isFn K (.ref f)=true
 kp:PySem.W.keepIn K (.ref C)=true
section
variable {X:Cx} {CX:CXT} {k:Nat} {f C:Addr} {fd:FuncData} {ps:List Str} {sp:Sp} {E:XK} {x m:Str} {p pos apos:Pos} {e o:Expr} {es:List Expr} {ta:TE} {t:TA}
structure CMeth (K:yg) (C:Addr) (m:Str) (f:Addr):Prop where
 rd:PySem.W.readsIn K C (.type "type")=true
 at_:PySem.W.findCls K (.ref C) (.type "type") m=some (.val (.ref f))
 ga:PySem.W.specialIn K (.ref C) "__getattribute__"=some (some (.builtin "type.__getattribute__"))
 kp:PySem.W.keepIn K (.ref f)=true
end
noncomputable def tVinit (K:yg) (t:TA):TE:=fun σ H Q=>t σ H fun vs H1=>∃ a C y,vs=[.ref a,y]/\H1 a=some (XN a C none)/\XAt K C/\Q .non H1
structure VInit (K:yg):Prop where
 ga:PySem.W.findIn K (.type "type") "__getattribute__"=some (some (.builtin "type.__getattribute__"))
 su:PySem.W.subIn K (.type "type") (.type "type")=some true
 at_:PySem.W.findCls K (.type "ValueError") (.type "type") "__init__"=some (.val (.builtin "ValueError.__init__"))
section
variable {X:Cx} {p pos apos:Pos} {e:Expr} {es:List Expr} {t:TA} {K:yg}
end
structure Keep (fs zs:List Addr) (h h':Heap):Prop where
 keep:∀ b o,h.get? b=some o->b∉zs->b∉fs->h'.get? b=some o
 slot:∀ b o,h.get? b=some o->b∉zs->b∈fs->∃ sl,h'.get? b=some { o with slots:=sl }
structure Trc (h:Heap) (e:Addr) (C:Value) (dx:Option Addr) (T:Addr) (fl:Value):Prop where
 ex:∃ vs,h.get? e=some ⟨C,dx,.fields vs,#[]⟩/\vs[1]?=some (.ref T)/\vs[2]?=some .none
 tb:∃ ts,h.get? T=some ⟨.type "traceback",none,.fields ts,#[]⟩/\ts[3]?=some fl
 ne:T≠e
section
variable {M:Model} {A:Around} {E:Value->Shared->Prop} {s:Shared} {base:Heap} {env:Env} {outer:List Env} {L e:Addr} {C:Value} {dx:Option Addr} {vs:Array Value}
end
noncomputable def CX1 (P:Program) (w:World):CXT:=fun outer H s E ev s'=>∃ (a C:Addr) (dx:Option Addr) (T:Addr) (H':Hp),ev=.ref a/\s'.os=s.os/\AllBare s'.gens/\Un (frs outer) [] H H' s.heap s'.heap/\HOk P w H' s'.heap /\
 H' a=some (XO a C dx)/\Trc s'.heap a (.ref C) dx T .none/\s.heap.objs.size<=T/\H' T=none/\E (.ref C) dx H'
section
variable {X:Cx} {pins:List (Addr×Obj)} {σ:St} {H:Hp} {s:Shared}
end
structure XOk (X:Cx) (EK:St->XK):Prop where
 pass:∀ (pins:List (Addr×Obj)) (σ:St) (H:Hp) (s:Shared) (e:Value) (s':Shared),Inv X pins σ H s->CX1 X.prog X.w X.stack H s (EK σ) e s'->X.xe e s'
 rais:∀ (pins:List (Addr×Obj)) (σ:St) (H:Hp) (s:Shared) (a C:Addr) (dx:Option Addr),Inv X pins σ H s->H a=some (XN a C dx)->EK σ (.ref C) dx (upd H a (XO a C dx))->X.xe (.ref a) s
 calm:X.calm=true
section
variable {P:Program} {w:World} {K:yg} {mg:Str->Option Value} {base:Heap} {N:List Str} {qual:Str} {scope:Scope} {f:Addr} {cd:Value} {A:Around} {outer:List Env} {s0:Shared} {H0:Hp} {E:XK}
end
noncomputable def tRaise (K:yg) (EK:St->XK) (te:TE):TS:=fun _ σ H=>te σ H fun x H1=>∃ a C dx,x=.ref a/\H1 a=some (XN a C dx)/\XAt K C/\EK σ (.ref C) dx (upd H1 a (XO a C dx))
section
variable {X:Cx} {EK:St->XK} {e:Expr} {te:TE} {pos:Pos} {K:yg}
end
noncomputable def tCallS (sp:Sp) (EK:St->XK) (t:TA):TE:=fun σ H Q=>t σ H fun vs H1=>sp vs H1 Q (EK σ)
noncomputable def tMethS (C:Addr) (m:Str) (sp:Sp) (EK:St->XK) (ta:TE) (t:TA):TE:=fun σ H Q=>ta σ H fun x H1=>∃ a dx fs,x=.ref a/\H1 a=some (.ins C dx fs)/\fs.lookup m=none/\t σ H1 fun vs H2=>sp (x::vs) H2 Q (EK σ)
noncomputable def tMakeS (C:Addr) (sp:Sp) (EK:St->XK) (t:TA):TE:=fun σ H Q=>t σ H fun vs H1=>∀ x dx,H1 x=none->H1 dx=none->dx≠x ->
 sp (.ref x::vs) (upd (upd H1 dx (.own x)) x (.ins C dx [])) (fun v H2=>v=.non/\Q (.ref x) H2) (EK σ)
structure MethOk (P:Program) (w:World) (K:yg) (mg:Str->Option Value) (base:Heap) (CX:CXT) (k:Nat) (C:Addr) (m:Str) (ps:List Str) (sp:Sp):Prop where
 ex:∃ f fd,FnOk P w K mg base CX k f fd ps sp/\Meth K C m f/\Binds K fd ps []
 cl:Cls K C
structure MakeOk (P:Program) (w:World) (K:yg) (mg:Str->Option Value) (base:Heap) (CX:CXT) (k:Nat) (C:Addr) (x:Str) (ps:List Str) (sp:Sp):Prop where
 ex:∃ f fd,FnOk P w K mg base CX k f fd ps sp/\Mk K C f/\Binds K fd ps []
 mg_:mg x=some (.ref C)
structure XMakeOk (P:Program) (w:World) (K:yg) (mg:Str->Option Value) (base:Heap) (k:Nat) (C:Addr) (x:Str) (ps:List Str) (sp:Sp):Prop where
 ex:∃ f fd,FnOk P w K mg base CX0 k f fd ps sp/\XMk K C f/\Binds K fd ps []
 mg_:mg x=some (.ref C)
section
variable {X:Cx} {EK:St->XK} {k:Nat} {f C:Addr} {fd:FuncData} {ps:List Str} {sp:Sp} {x m:Str} {p pos apos:Pos} {e o:Expr} {es:List Expr} {ta:TE} {t:TA}
theorem qG (D:MethOk X.prog X.w X.K X.mg X.base CX0 k C m ps sp) (hr:Room k X.A) (he:PE X o ta) (ha:PA X (e::es) t)
  (hst:starEach (e::es) X.env=(false,eval e X.env)::starEach es X.env:=by rfl) (hpl:(backTo pos (starEach es X.env)).any (·.1)=false:=by rfl)
  (ht:eval (.Call (.Attribute o m apos) (e::es) [] pos) X.env=(do
   let ov <- eval o X.env
   standAt apos.atName
   let (f,first) <- holding [ov] (getMethod ov m pl)
   callWith pos f first (backTo pos (starEach (e::es) X.env)) (backToKw pos (keywordEach [] X.env))):=by rfl) :
  PE X (.Call (.Attribute o m apos) (e::es) [] pos) (qdm C m sp [] E0 ta t):=by
 obtain ⟨f,fd,F,hm,hb⟩:=D.ex;exact pe_meth (pl:=pl) he D.cl hm F hr hb .nil qF ha hst hpl ht
theorem qZ (D:MethOk X.prog X.w X.K X.mg X.base CX0 k C m ps sp) (hr:Room k X.A) (he:PE X o ta)
  (ht:eval (.Call (.Attribute o m apos) [] [] pos) X.env=(do
   let ov <- eval o X.env
   standAt apos.atName
   let (f,first) <- holding [ov] (getMethod ov m pl)
   callWith pos f first (backTo pos (starEach [] X.env)) (backToKw pos (keywordEach [] X.env))):=by rfl) :
  PE X (.Call (.Attribute o m apos) [] [] pos) (qdm C m sp [] E0 ta qfv):=by
 obtain ⟨f,fd,F,hm,hb⟩:=D.ex;exact pe_meth0 (pl:=pl) he D.cl hm F hr hb .nil qF ht
end
section
variable {P:Program} {w:World} {K:yg} {mg:Str->Option Value} {base:Heap}
end
noncomputable abbrev Cx.tried (X:Cx) (pn:List (Addr×Obj)) (E:Value->Shared->Prop):Cx:={ X with pn:=pn,xe:=E }
noncomputable abbrev Cx.hand (X:Cx) (a:Addr):Cx:={ X with A:=X.A.mark (some (.ref a)),calm:=false,xe:=fun _ _=>False }
section
variable {X:Cx} {pins pins':List (Addr×Obj)} {σ:St} {H:Hp} {s:Shared} {E:Value->Shared->Prop} {a:Addr}
structure Loose (X:Cx) (pins:List (Addr×Obj)) (H:Hp) (T:Addr):Prop where
 hn:H T=none
 lo:X.s₀.heap.objs.size<=T
 nl:T≠X.env.locals
 nf:T∉X.fs
 nc:∀ x c,X.env.cells.lookup x=some c->c≠T
 np:∀ p∈X.pn++pins,p.1≠T
end
structure Held (X:Cx) (pins:List (Addr×Obj)) (H:Hp) (h:Heap) (a C:Addr) (dx:Option Addr):Prop where
 at_:H a=some (XO a C dx)
 tr:∃ T,Trc h a (.ref C) dx T .none/\Loose X pins H T
section
variable {X:Cx} {a C D:Addr} {dx:Option Addr} {c n:Str} {cp pos:Pos} {b0:Stmt} {body:List Stmt} {qdf:List ExceptHandler} {tb tr:TS} {i:Nat} {K:yg}
end
section
variable {X:Cx} {body orelse:List Stmt} {h0:ExceptHandler} {hs:List ExceptHandler} {pos:Pos} {te:TS}
end
noncomputable def TyX (K:yg) (H:Hp) (x:V) (t:Value):Prop:=TyOf K H x t\/∃ a C dx,x=.ref a/\t=.ref C/\IsX H a C dx/\XAt K C/\∀ d,dx=some d->∃ fs,H d=some (.xd fs)
theorem TyX.kit {x:V} {t:Value} (I:Inv X pins σ H s) (rx:RelV x u) (ty:TyX X.K H x t):∃ P:Heap->Prop,PySem.W.KitX X.K u t P/\P s.heap/\u≠.builtin "__main__.__loader__#opaque":=by
 rcases ty with ty | ⟨a,C,dx,rfl,rfl,hx,c,hd⟩
 ·exact ty.kit I rx
 ·cases rx;obtain ⟨vs,he⟩:=hx.get I.hok
  cases dx with
  | none=>exact ⟨_,qcU (od:=none) c,⟨he,rfl,rfl,YL⟩,fun z=>nomatch z⟩
  | some d =>
   obtain ⟨fs,hf⟩:=hd d rfl;obtain ⟨od,mA,h1,_⟩:=qeo I hf;exact ⟨_,qcU (od:=some od) c,⟨he,rfl,rfl,h1⟩,fun z=>nomatch z⟩
noncomputable def qfj (K:yg):List V->Hp->VK->Prop:=fun xs H Q=>∃ x y t c b,xs=[x,y]/\TyX K H x t/\qb1 y=some c/\PySem.W.kitOne K t c=some b/\Q (.bl b) H
noncomputable def qdA (K:yg):List V->Hp->VK->Prop:=fun xs H Q=>∃ x p ys t cs b,xs=[x,.ref p]/\TyX K H x t/\H p=some (.tup ys)/\ys.map qb1=cs.map some/\PySem.W.kitAny K t cs=some b/\Q (.bl b) H
section
variable {X:Cx} {K:yg}
theorem qam (hK:X.K=K):zi X (.builtin "isinstance") (qfj K):=by
 subst hK;intro pins s σ H xs us Q I r h;obtain ⟨x,y,t,c,b,rfl,ty,hy,hb,q⟩:=h;obtain ⟨u,v,rfl,ru,rv⟩:=qdl r;have e:=qbi hy rv;subst e;obtain ⟨P,Z,p,ne⟩:=ty.kit I ru;exact PySem.W.kia_one Z I.kIn p hb ne fun tk=>⟨.bl b,H,I.tok tk,rfl,q⟩
theorem qdB (hK:X.K=K):zi X (.builtin "isinstance") (qdA K):=by
 subst hK;intro pins s σ H xs us Q I r h;obtain ⟨x,p,ys,t,cs,b,rfl,ty,hp,hy,hb,q⟩:=h;obtain ⟨u,v,rfl,ru,rv⟩:=qdl r;cases rv;obtain ⟨P,Z,pz,ne⟩:=ty.kit I ru;obtain ⟨_,its,rv,o,ho,hc,n,hd⟩:=(show ObjOk X.prog X.w H s.heap p (.tup ys) from I.hok p _ hp);have e:=qaX hy rv;subst e;obtain ⟨c,dd,dt,sl⟩:=o;have hc':c=.type "tuple":=hc;have hd':dt=.seq its.toArray n:=hd;subst hc' hd';exact PySem.W.kia_tup Z I.kIn pz ho hb ne fun tk=>⟨.bl b,H,I.tok tk,rfl,q⟩
end
mutual
inductive EqD (K:yg) (H:Hp):Nat->V->V->Bool->Prop
 | flat {n:Nat} {x y:V} (fx:zQ x=true) (fy:zQ y=true):EqD K H n x y (eqV x y)
 | self {n:Nat} {a:Addr}:EqD K H n (.ref a) (.ref a) true
 | deep {n:Nat} {a b:Addr} {k:Bool} (h:EqT K H n a b k) (ne:a≠b):EqD K H n (.ref a) (.ref b) k
inductive EqT (K:yg) (H:Hp):Nat->Addr->Addr->Bool->Prop
 | lst {n:Nat} {a b:Addr} {xs ys:List V} {e:Nat->Bool} (ha:SqL K H a xs) (hb:SqL K H b ys) (hl:xs.length=ys.length) (he:∀ j x y,xs[j]?=some x->ys[j]?=some y->EqD K H n x y (e j)):EqT K H (n + 1) a b ((List.range xs.length).all e)
 | lstL {n:Nat} {a b:Addr} {xs ys:List V} (ha:SqL K H a xs) (hb:SqL K H b ys) (hl:xs.length≠ys.length):EqT K H (n + 1) a b false
 | tup {n:Nat} {a b:Addr} {xs ys:List V} {e:Nat->Bool} (ha:SqT K H a xs) (hb:SqT K H b ys) (he:∀ j x y,xs[j]?=some x->ys[j]?=some y->EqD K H n x y (e j)):EqT K H (n + 1) a b ((List.range (min xs.length ys.length)).all e&&xs.length==ys.length)
 | lt {n:Nat} {a b:Addr} {xs ys:List V} (ha:SqL K H a xs) (hb:SqT K H b ys):EqT K H (n + 1) a b false
 | tl {n:Nat} {a b:Addr} {xs ys:List V} (ha:SqT K H a xs) (hb:SqL K H b ys):EqT K H (n + 1) a b false
end
theorem jp:∀ {xs:List V} {us:List Value} {j:Nat} {u:Value},Vals xs us->us[j]?=some u->∃ x,xs[j]?=some x/\RelV x u
 | _,_,_,_,.nil,e=>by simp at e
 | _,_,0,_,.cons r _,e=>by simp at e;subst e;exact ⟨_,rfl,r⟩
 | _,_,j + 1,u,.cons _ t,e=>by
  obtain ⟨x,h1,h2⟩:=jp (j:=j) (u:=u) t (by simpa using e);exact ⟨x,by simpa using h1,h2⟩
section
variable {X:Cx} {pins:List (Addr×Obj)} {σ:St} {H:Hp} {s:Shared}
theorem qcu (I:Inv X pins σ H s):∀ n,(∀ (A:Around) (x y:V) (k:Bool) (u v:Value),EqD X.K H n x y k->RelV x u->RelV y v->A.units + n < cLine->SeqAt.EqAt A s u v k)/\(∀ (A:Around) (a b:Addr) (k:Bool),EqT X.K H n a b k->A.units + n < cLine->SeqAt.RcAt A s (.ref a) (.ref b) k):=by
 intro n
 induction n with
 | zero =>
  have t0:∀ (A:Around) (a b:Addr) (k:Bool),EqT X.K H 0 a b k->A.units + 0 < cLine->SeqAt.RcAt A s (.ref a) (.ref b) k:=fun A a b k h=>by cases h
  refine ⟨fun A x y k u v h rx ry hu=>?_,t0⟩
  cases h with
  | flat fx fy=>exact qdr rx ry fx fy
  | self=>cases rx;cases ry;exact XD _
  | deep h ne=>cases h
 | succ n ih =>
  have t1:∀ (A:Around) (a b:Addr) (k:Bool),EqT X.K H (n + 1) a b k->A.units + (n + 1) < cLine->SeqAt.RcAt A s (.ref a) (.ref b) k:=fun A a b k h hu=>by
   have hu0:A.units < cLine:=by omega
   have hu1:A.in1.units + n < cLine:=by show A.units + 1 + n < cLine;omega
   cases h with
   | @lst _ _ _ xs ys e ha hb hl he =>
    obtain ⟨its,r,pl,hz⟩:=I.list ha;obtain ⟨its2,r2,pl2,hz2⟩:=I.list hb;have e1:xs.length=its.toArray.size:=by rw [yw];exact r.length
    have e2:ys.length=its2.toArray.size:=by rw [yw];exact r2.length
    rw [e1];refine SeqAt.RcAt.lists pl.isList pl2.isList (by rw [<- e1,<- e2,hl]) hu0 fun j h1 h2=>?_;have g1:its[j]?=some its.toArray[j]:=by simp
    have g2:its2[j]?=some its2.toArray[j]:=by simp
    obtain ⟨x,hx,rx⟩:=jp r g1;obtain ⟨y,hy,ry⟩:=jp r2 g2;exact ih.1 A.in1 x y (e j) _ _ (he j x y hx hy) rx ry hu1
   | @lstL _ _ _ xs ys ha hb hl =>
    obtain ⟨its,r,pl,hz⟩:=I.list ha;obtain ⟨its2,r2,pl2,hz2⟩:=I.list hb;refine SeqAt.RcAt.lists_lengths pl.isList pl2.isList ?_ hu0;rw [yw,yw,<- r.length,<- r2.length];simp [hl]
   | @tup _ _ _ xs ys e ha hb he =>
    obtain ⟨its,r,pl,hz⟩:=I.tuple ha;obtain ⟨its2,r2,pl2,hz2⟩:=I.tuple hb;have e1:xs.length=its.toArray.size:=by rw [yw];exact r.length
    have e2:ys.length=its2.toArray.size:=by rw [yw];exact r2.length
    rw [e1,e2];refine SeqAt.RcAt.tuples pl pl2 hu0 fun j h1 h2=>?_;have g1:its[j]?=some its.toArray[j]:=by simp
    have g2:its2[j]?=some its2.toArray[j]:=by simp
    obtain ⟨x,hx,rx⟩:=jp r g1;obtain ⟨y,hy,ry⟩:=jp r2 g2;exact ih.1 A.in1 x y (e j) _ _ (he j x y hx hy) rx ry hu1
   | lt ha hb =>
    obtain ⟨its,r,pl,hz⟩:=I.list ha;obtain ⟨its2,r2,pl2,hz2⟩:=I.tuple hb;exact SeqAt.RcAt.list_tuple pl.isList pl2 hu0
   | tl ha hb =>
    obtain ⟨its,r,pl,hz⟩:=I.tuple ha;obtain ⟨its2,r2,pl2,hz2⟩:=I.list hb;exact SeqAt.RcAt.tuple_list pl pl2.isList hu0
  refine ⟨fun A x y k u v h rx ry hu=>?_,t1⟩
  cases h with
  | flat fx fy=>exact qdr rx ry fx fy
  | self=>cases rx;cases ry;exact XD _
  | deep h ne=>cases rx;cases ry;exact SeqAt.EqAt.of_refs ne (t1 A _ _ k h hu)
theorem ne_refs (I:Inv X pins σ H s) {n:Nat} {A:Around} {a b:Addr} {k:Bool} (h:EqT X.K H n a b k) (hu:A.units + n < cLine):SeqAt.RcNeAt A s (.ref a) (.ref b) (!k):=by
 cases n with
 | zero=>cases h
 | succ n =>
  have ih:=qcu I n;have hu0:A.units < cLine:=by omega
  have hu1:A.in1.units + n < cLine:=by show A.units + 1 + n < cLine;omega
  cases h with
  | @lst _ _ _ xs ys e ha hb hl he =>
   obtain ⟨its,r,pl,hz⟩:=I.list ha;obtain ⟨its2,r2,pl2,hz2⟩:=I.list hb;have e1:xs.length=its.toArray.size:=by rw [yw];exact r.length
   have e2:ys.length=its2.toArray.size:=by rw [yw];exact r2.length
   rw [e1];refine SeqAt.RcNeAt.lists pl.isList pl2.isList (by rw [<- e1,<- e2,hl]) hu0 fun j h1 h2=>?_;obtain ⟨x,hx,rx⟩:=jp r (show its[j]?=some its.toArray[j] by simp);obtain ⟨y,hy,ry⟩:=jp r2 (show its2[j]?=some its2.toArray[j] by simp);exact ih.1 A.in1 x y (e j) _ _ (he j x y hx hy) rx ry hu1
  | @lstL _ _ _ xs ys ha hb hl =>
   obtain ⟨its,r,pl,hz⟩:=I.list ha;obtain ⟨its2,r2,pl2,hz2⟩:=I.list hb;refine SeqAt.RcNeAt.lists_lengths pl.isList pl2.isList ?_ hu0;rw [yw,yw,<- r.length,<- r2.length];simp [hl]
  | @tup _ _ _ xs ys e ha hb he =>
   obtain ⟨its,r,pl,hz⟩:=I.tuple ha;obtain ⟨its2,r2,pl2,hz2⟩:=I.tuple hb;have e1:xs.length=its.toArray.size:=by rw [yw];exact r.length
   have e2:ys.length=its2.toArray.size:=by rw [yw];exact r2.length
   rw [e1,e2];refine SeqAt.RcNeAt.tuples pl pl2 hu0 fun j h1 h2=>?_;obtain ⟨x,hx,rx⟩:=jp r (show its[j]?=some its.toArray[j] by simp);obtain ⟨y,hy,ry⟩:=jp r2 (show its2[j]?=some its2.toArray[j] by simp);exact ih.1 A.in1 x y (e j) _ _ (he j x y hx hy) rx ry hu1
  | lt ha hb =>
   obtain ⟨its,r,pl,hz⟩:=I.list ha;obtain ⟨its2,r2,pl2,hz2⟩:=I.tuple hb;exact SeqAt.RcNeAt.list_tuple pl.isList pl2 hu0
  | tl ha hb =>
   obtain ⟨its,r,pl,hz⟩:=I.tuple ha;obtain ⟨its2,r2,pl2,hz2⟩:=I.list hb;exact SeqAt.RcNeAt.tuple_list pl pl2.isList hu0
theorem qep {A:Around} {x y:V} {u v:Value} (rx:RelV x u) (ry:RelV y v) (fx:zQ x=true) (fy:zQ y=true):SeqAt.RcAt A s u v (eqV x y)/\SeqAt.RcNeAt A s u v (!eqV x y):=by
 cases x with
 | non =>
  cases rx
  cases y with
  | non=>cases ry;exact ⟨SeqAt.RcAt.none_none,SeqAt.RcNeAt.none_none⟩
  | bl b=>cases ry;exact ⟨SeqAt.RcAt.none_bool b,SeqAt.RcNeAt.none_bool b⟩
  | int b=>obtain ⟨t,rfl⟩:=ry;exact ⟨SeqAt.RcAt.none_int b t,SeqAt.RcNeAt.none_int b t⟩
  | str b=>obtain ⟨t,rfl⟩:=ry;exact ⟨SeqAt.RcAt.none_str b t,SeqAt.RcNeAt.none_str b t⟩
  | _=>cases fy
 | bl a =>
  cases rx
  cases y with
  | non=>cases ry;exact ⟨SeqAt.RcAt.bool_none a,SeqAt.RcNeAt.bool_none a⟩
  | bl b=>cases ry;exact ⟨SeqAt.RcAt.bool_bool a b,SeqAt.RcNeAt.bool_bool a b⟩
  | int b=>obtain ⟨t,rfl⟩:=ry;exact ⟨SeqAt.RcAt.bool_int a b t,SeqAt.RcNeAt.bool_int a b t⟩
  | str b=>obtain ⟨t,rfl⟩:=ry;exact ⟨SeqAt.RcAt.bool_str a b t,SeqAt.RcNeAt.bool_str a b t⟩
  | _=>cases fy
 | int a =>
  obtain ⟨t',rfl⟩:=rx
  cases y with
  | non=>cases ry;exact ⟨SeqAt.RcAt.int_none a t',SeqAt.RcNeAt.int_none a t'⟩
  | bl b=>cases ry;exact ⟨SeqAt.RcAt.int_bool a t' b,SeqAt.RcNeAt.int_bool a t' b⟩
  | int b=>obtain ⟨t,rfl⟩:=ry;exact ⟨SeqAt.RcAt.int_int a t' b t,SeqAt.RcNeAt.int_int a t' b t⟩
  | str b=>obtain ⟨t,rfl⟩:=ry;exact ⟨SeqAt.RcAt.int_str a t' b t,SeqAt.RcNeAt.int_str a t' b t⟩
  | _=>cases fy
 | str a =>
  obtain ⟨t',rfl⟩:=rx
  cases y with
  | non=>cases ry;exact ⟨SeqAt.RcAt.str_none a t',SeqAt.RcNeAt.str_none a t'⟩
  | bl b=>cases ry;exact ⟨SeqAt.RcAt.str_bool a t' b,SeqAt.RcNeAt.str_bool a t' b⟩
  | int b=>obtain ⟨t,rfl⟩:=ry;exact ⟨SeqAt.RcAt.str_int a t' b t,SeqAt.RcNeAt.str_int a t' b t⟩
  | str b=>obtain ⟨t,rfl⟩:=ry;exact ⟨SeqAt.RcAt.str_str a t' b t,SeqAt.RcNeAt.str_str a t' b t⟩
  | _=>cases fy
 | _=>cases fx
end
noncomputable def qeq (K:yg) (neg:Bool):R2:=fun x y H Q=>(zQ x=true/\zQ y=true/\Q (.bl (if neg then !eqV x y else eqV x y)) H) \/
 (∃ a b k n,x=.ref a/\y=.ref b/\n<=60/\EqT K H n a b k/\Q (.bl (if neg then !k else k)) H) \/
 (∃ a kvs,x=.ref a/\y=.ref a/\H a=some (.dK kvs)/\Q (.bl (!neg)) H)
theorem qaZ {κ:Type} [DecidableEq κ]:∀ {kb:List (κ×Value)} {k:κ} {v:Value},(kb.map (·.1)).Nodup->(k,v)∈kb->valueAt kb k=some v
 | [],_,_,_,h=>by cases h
 | (k',v')::r,k,v,hn,h=>by
  obtain ⟨h1,h2⟩:=yo.mp (show (k'::r.map (·.1)).Nodup from hn);unfold valueAt;rw [Y2];by_cases e:k'=k
  ·subst e;simp only [decide_true];rcases yx.mp h with z | z
   ·cases z;rfl
   ·exact absurd (Yd.mpr ⟨(k',v),z,rfl⟩) h1
  ·simp only [e,kO];rcases yx.mp h with z | z
   ·cases z;exact absurd rfl e
   ·exact qaZ h2 z
theorem qcv {A:Around} {s:Shared} {κ:Type} [DecidableEq κ] (kb:List (κ×Value)) (hn:(kb.map (·.1)).Nodup):∀ ka:List (κ×Value),(∀ p∈ka,p∈kb)->PySem.W.KeqHits A s kb ka true
 | [],_=>.nil
 | (k,v)::r,h=>by
  have hv:valueAt kb k=some v:=qaZ hn (h (k,v) yL);exact .hit (e:=true) (b:=true) hv (XD v) (qcv kb hn r fun p hp=>h p (yA _ hp))
section
variable {X:Cx} {K:yg}
theorem k_eqU (hK:X.K=K) (hu:X.A.units + 100 < cLine):OpR X (compareOp .Eq) (qeq K false):=by
 subst hK;intro pins s σ H x y u v Q I rx ry h;rcases h with ⟨fx,fy,q⟩ | ⟨a,b,k,n,rfl,rfl,hn,e,q⟩ | ⟨a,kvs,rfl,rfl,ea,q⟩
 ·exact (qep rx ry fx fy).1 _ _ _ _ ⟨.bl _,H,I,rfl,q⟩
 ·cases rx;cases ry;exact (qcu I n).2 X.A a b k e (by omega) _ _ _ _ ⟨.bl _,H,I,rfl,q⟩
 ·cases rx;cases ry;obtain ⟨_,hs,vs,r,d⟩:=(show ObjOk X.prog X.w H s.heap a (.dK kvs) from I.hok a _ ea);obtain ⟨_,_,_,_,_,_,_,_,nd⟩:=id d;refine PySem.W.keq_eq hs hs d d (by omega) (fun _=>qcv vs nd vs fun _ h=>h) ?_;rw [Y9];exact ⟨.bl true,H,I,rfl,q⟩
theorem qaB (hK:X.K=K) (hu:X.A.units + 100 < cLine):OpR X (compareOp .NotEq) (qeq K true):=by
 subst hK;intro pins s σ H x y u v Q I rx ry h;rcases h with ⟨fx,fy,q⟩ | ⟨a,b,k,n,rfl,rfl,hn,e,q⟩ | ⟨a,kvs,rfl,rfl,ea,q⟩
 ·exact (qep rx ry fx fy).2 _ _ _ _ ⟨.bl _,H,I,rfl,q⟩
 ·cases rx;cases ry;exact ne_refs I e (by omega) _ _ _ _ ⟨.bl _,H,I,rfl,q⟩
 ·cases rx;cases ry;obtain ⟨_,hs,vs,r,d⟩:=(show ObjOk X.prog X.w H s.heap a (.dK kvs) from I.hok a _ ea);obtain ⟨_,_,_,_,_,_,_,_,nd⟩:=id d;refine PySem.W.keq_ne hs hs d d (by omega) (fun _=>qcv vs nd vs fun _ h=>h) ?_;rw [Y9];exact ⟨.bl false,H,I,rfl,q⟩
end
section
variable {X:Cx} {K:yg}
noncomputable def qfx (K:yg):R2:=fun x y H Q=>rIx K x y H Q\/∃ a v,x=.ref a/\DGet H a y (some v)/\Q v H
theorem qy (hK:X.K=K) (hu:X.A.units + 100 < cLine):IxR X (qfx K):=by
 subst hK;refine IxR.or ix_seq ?_;intro value slice pins s σ H x y v u Q I rx ry h hs;obtain ⟨a,z,rfl,g,q⟩:=h;cases rx;exact tail_any (dict_typeIs I g) PySem.F.slot_dict_getitem.lookup (d_getItem (by omega) I g ry fun w' s3 I3 rw'=>⟨z,H,I3,rw',q⟩) hs
noncomputable def rSetU:qe4:=fun o i v H Q=>qeJ o i v H Q\/∃ a H',o=.ref a/\DPut H a i v H'/\Q H'
theorem jM (hu:X.A.units + 100 < cLine):qfB X rSetU:=by
 intro pins s σ H o i v ov iv u Q I ro ri rv h;rcases h with h | ⟨a,H',rfl,g,q⟩
 ·exact set_list pins s σ H o i v ov iv u Q I ro ri rv h
 ·cases ro;exact d_setItem (by omega) I g ri rv fun s' I'=>⟨H',I',q⟩
noncomputable def qd2 (K:yg) (neg:Bool):R2:=fun x y H Q=>rIn K neg x y H Q\/(∃ a o,y=.ref a/\DGet H a x o/\Q (.bl (if neg then !o.isSome else o.isSome)) H) \/
 (∃ p xs e n,y=.ref p/\SqL K H p xs/\n<=60/\(∀ z∈xs,EqD K H n z x (e z))/\Q (.bl (if neg then !xs.any e else xs.any e)) H)
theorem qer {pins:List (Addr×Obj)} {σ:St} {H:Hp} {s:Shared} {xs:List V} {its:List Value} {x:V} {u:Value} {e:V->Bool} {n:Nat} {A:Around} (I:Inv X pins σ H s) (r:Vals xs its) (rx:RelV x u) (hu:A.units + n < cLine) (he:∀ z∈xs,EqD X.K H n z x (e z)) :
  ∃ e':Value->Bool,(∀ w,w∈its.toArray->SeqAt.EqAt A s w u (e' w))/\its.toArray.any e'=xs.any e:=by
 classical
 refine ⟨fun w=>decide (∃ z∈xs,RelV z w/\e z=true),fun w hw=>?_,?_⟩
 ·have hw':w∈its:=by simpa using hw
  obtain ⟨j,hj⟩:=xP.mp hw';obtain ⟨z,hz,rz⟩:=jp r hj;have hm:=ye hz
  have eq:decide (∃ z∈xs,RelV z w/\e z=true)=e z:=by
   cases q:e z with
   | true=>exact yI ⟨z,hm,rz,q⟩
   | false =>
    refine yl fun ⟨z',_,rz',q'⟩=>?_;rw [RelV.inj rz' rz,q] at q';cases q'
  show SeqAt.EqAt A s w u (decide (∃ z∈xs,RelV z w/\e z=true));rw [eq];exact (qcu I n).1 A z x (e z) w u (he z hm) rz rx hu
 ·rw [Yq,Yn];constructor
  ·intro h;have h':its.any (fun w=>decide (∃ z∈xs,RelV z w/\e z=true))=true:=by simpa using h
   obtain ⟨w,_,q⟩:=Yn.mp h';obtain ⟨z,hz,_,ez⟩:=yk q;exact ⟨z,hz,ez⟩
  ·rintro ⟨z,hz,ez⟩;obtain ⟨j,hj⟩:=xP.mp hz;obtain ⟨w,hw,rz⟩:=r.get hj;have:its.any (fun w=>decide (∃ z∈xs,RelV z w/\e z=true))=true:=Yn.mpr ⟨w,ye hw,yI ⟨z,hz,rz,ez⟩⟩;simpa using this
theorem zW (hK:X.K=K) (hu:X.A.units + 100 < cLine):OpR X (compareOp .In) (qd2 K false):=by
 subst hK;intro pins s σ H x y u v Q I rx ry h;rcases h with h | ⟨a,o,rfl,g,q⟩ | ⟨p,xs,e,n,rfl,hl,hn,he,q⟩
 ·exact op_in_seq pins s σ H x y u v Q I rx ry h
 ·cases ry;exact d_in (by omega) I g rx fun s' I'=>⟨.bl _,H,I',rfl,q⟩
 ·cases ry;obtain ⟨its,r,pl,hz⟩:=I.list hl;obtain ⟨e',h1,h2⟩:=qer (A:=X.A.in1) I r rx (by show X.A.units + 1 + n < cLine;omega) he;exact SeqAt.in_listAt e' pl.isList h1 (by rw [h2];exact ⟨.bl _,H,I,rfl,q⟩)
theorem qbv (hK:X.K=K) (hu:X.A.units + 100 < cLine):OpR X (compareOp .NotIn) (qd2 K true):=by
 subst hK;intro pins s σ H x y u v Q I rx ry h;rcases h with h | ⟨a,o,rfl,g,q⟩ | ⟨p,xs,e,n,rfl,hl,hn,he,q⟩
 ·exact op_notIn_seq pins s σ H x y u v Q I rx ry h
 ·cases ry;exact d_notIn (by omega) I g rx fun s' I'=>⟨.bl _,H,I',rfl,q⟩
 ·cases ry;obtain ⟨its,r,pl,hz⟩:=I.list hl;obtain ⟨e',h1,h2⟩:=qer (A:=X.A.in1) I r rx (by show X.A.units + 1 + n < cLine;omega) he;exact SeqAt.notIn_listAt e' pl.isList h1 (by rw [h2];exact ⟨.bl _,H,I,rfl,q⟩)
noncomputable def rListU (K:yg):List V->Hp->VK->Prop:=fun xs H Q=>(∃ p ys,xs=[.ref p]/\(SqL K H p ys\/SqT K H p ys)/\∀ l,H l=none->Q (.ref l) (upd H l (.lst ys))) \/
 (∃ p kvs,xs=[.ref p]/\H p=some (.dK kvs)/\∀ l,H l=none->Q (.ref l) (upd H l (.lst (kvs.map fun kv=>kV kv.1)))) \/
 (∃ x,xs=[.str x]/\x.length<=1000/\∀ l,H l=none->Q (.ref l) (upd H l (.lst (x.cps.toList.map fun c=>.str ⟨#[c]⟩))))
theorem qbk {α β:Type} {F:α->β->Prop}:∀ {l:List α} {m:List β} {j:Nat} {a:α},Paired F l m->l[j]?=some a->∃ b,m[j]?=some b/\F a b
 | _,_,_,_,.nil,e=>by simp at e
 | _,_,0,_,.cons r _,e=>by simp at e;subst e;exact ⟨_,rfl,r⟩
 | _,_,j + 1,a,.cons _ t,e=>by
  obtain ⟨b,h1,h2⟩:=qbk (j:=j) (a:=a) t (by simpa using e);exact ⟨b,by simpa using h1,h2⟩
theorem zd:∀ {ys:List V} {us:List Value},ys.length=us.length->(∀ (j:Nat) y u,ys[j]?=some y->us[j]?=some u->RelV y u)->Vals ys us
 | [],[],_,_=>.nil
 | [],_::_,h,_=>by cases h
 | _::_,[],h,_=>by cases h
 | y::ys,u::us,h,q=>.cons (q 0 y u rfl rfl) (zd (Nat.succ.inj h) fun j y' u' h1 h2=>q (j + 1) y' u' (by simpa using h1) (by simpa using h2))
theorem qa0 (hK:X.K=K) (hc:X.calm=true):zi X (.type "list") (rListU K):=by
 subst hK;intro pins s σ H xs us Q I r h;rcases h with h | ⟨p,kvs,rfl,ea,q⟩ | ⟨x,rfl,hx,q⟩
 ·exact call_list_of pins s σ H xs us Q I r h
 ·obtain ⟨u,rfl,ru⟩:=qaR r;cases ru;obtain ⟨hz,hs,vs,rv,d⟩:=(show ObjOk X.prog X.w H s.heap p (.dK kvs) from I.hok p _ ea);obtain ⟨ep,hat⟩:=d.dictAt;have hl:kvs.length=vs.length:=rv.length;refine PySem.W.kdl_call (PySem.W.kdl_dict (knd:=jh X.prog X.w) (kvs:=vs) (ep:=ep) hs) (I.ok.hd hc) hat (by rw [<- hl];exact hz) fun h' tk acc' c' kp e it=>?_;obtain ⟨i1,i2⟩:=it
  have hv:Vals (kvs.map fun kv=>kV kv.1) acc'.toList:=by
   refine zd (by rw [ya,hl,<- i1];simp) fun j y u h1 h2=>?_;obtain ⟨k,x,h3,h4⟩:=i2 j u (by simpa using h2);rw [yd] at h1
   cases q1:kvs[j]? with
   | none=>rw [q1] at h1;cases h1
   | some kv =>
    rw [q1] at h1;cases h1;obtain ⟨q2,h5,h6,h7⟩:=qbk rv q1;rw [h3] at h5;cases h5;have e1:kv.1=k:=h6;show RelV (kV kv.1) u;rw [e1];rcases qR (show qcj k u=true from h4) with ⟨i,t,rfl,rfl⟩ | ⟨z,t,rfl,rfl⟩
    ·exact ⟨t,rfl⟩
    ·exact ⟨t,rfl⟩
  refine ⟨.ref s.heap.objs.size,_,I.laid (t':=tk) kp (yh _) (show ObjOk X.prog X.w _ h' _ (.lst (kvs.map fun kv=>kV kv.1)) from ⟨by rw [ya];exact hz,acc'.toList,c',hv,by simpa using e⟩),rfl,q _ (I.hok.fresh (yh _))⟩
 ·obtain ⟨u,rfl,t,rfl⟩:=qaR r;have hsz:x.cps.size<=sizeLine:=yZ (qi hx);refine call_list_str (I.ok.hd hc) x t (fun h' tk acc' c' kp e it=>?_) hsz;obtain ⟨i1,i2⟩:=it
  have hv:Vals (x.cps.toList.map fun c=>V.str ⟨#[c]⟩) acc'.toList:=by
   refine zd (by rw [ya];simp [i1]) fun j y u h1 h2=>?_;obtain ⟨c,t',h3,rfl⟩:=i2 j u (by simpa using h2);rw [yd] at h1;have h3':x.cps.toList[j]?=some c:=by simpa using h3
   rw [h3'] at h1;cases h1;exact ⟨t',rfl⟩
  refine ⟨.ref s.heap.objs.size,_,I.laid (t':=tk) kp (yh _) (show ObjOk X.prog X.w _ h' _ (.lst (x.cps.toList.map fun c=>V.str ⟨#[c]⟩)) from ⟨by rw [ya];simpa using hsz,acc'.toList,c',hv,by simpa using e⟩),rfl,q _ (I.hok.fresh (yh _))⟩
end
structure CMethOk (P:Program) (w:World) (K:yg) (mg:Str->Option Value) (base:Heap) (CX:CXT) (k:Nat) (C:Addr) (x m:Str) (ps:List Str) (sp:Sp):Prop where
 ex:∃ f fd,FnOk P w K mg base CX k f fd ps sp/\CMeth K C m f/\Binds K fd ps []
 mg_:mg x=some (.ref C)
section
variable {X:Cx} {k:Nat} {C:Addr} {ps:List Str} {sp:Sp} {x m:Str} {p pos apos:Pos} {e:Expr} {es:List Expr} {t:TA}
theorem qan (D:MakeOk X.prog X.w X.K X.mg X.base CX0 k C x ps sp) (hr:Room (k + 1) X.A) (ha:PA X (e::es) t) (hg:Gl X x:=by rfl) (hdb:(x==("__debug__":Str))=false:=by decide)
  (he:starEach (e::es) X.env=(false,eval e X.env)::starEach es X.env:=by rfl) (hpl:(backTo pos (starEach es X.env)).any (·.1)=false:=by rfl):PE X (.Call (.Name x p) (e::es) [] pos) (qeI C sp [] E0 t):=by
 obtain ⟨f,fd,F,M,hb⟩:=D.ex;exact pe_make M F hr hg D.mg_ hb .nil qF ha hdb he hpl
end
theorem own_eq_same {prog:Program} {w:World} {A:Around} {E:Value->Shared->Prop} {s:Shared} {K:yg} {x C:Addr} {ox:Obj} {od:Option Obj} {Q:Value->Shared->Prop} (hu:A.units < cLine) (X:K.In s.heap) (I:PySem.W.InstAt s.heap x ox C od)
  (hs:PySem.W.findIn K (.ref C) "__eq__"=some (some (.builtin "object.__eq__"))) (ho:PySem.W.mroIn K C (.type "object")=some true) (h:Q (.bool true) s):wpAny (model prog w) A (richCompare .Eq (.ref x) (.ref x)) Q E s:=by
 have call1:∀ {A':Around} {Q':Value->Shared->Prop},Q' (.bool true) s->wpAny (model prog w) A' (call (.builtin "object.__eq__") [.ref x,.ref x]) Q' E s:=fun {A' Q'} q=>by
  refine XX (xX PySem.F.slot_object_eq.plain PySem.F.entry_object_eq (@PySem.W.check_slot (model prog w) _ _ s "object.__eq__" "object" "__eq__" (.ref x) [.ref x] [] _ (by decide +kernel) (by decide +kernel) (I.type.andThen (xt X ho)) (PySem.F.args_object_eq_2 _ _) ?_));refine yr (yu (yr (wpAny_isSame_ref_self ?_)));exact yu q
 have one:wpAny (model prog w) A (tryCompare (.ref x) "__eq__" (.ref x)) (fun r s'=>∃ v,r=some v/\Q v s') E s:=by
  unfold tryCompare;refine yr ?_;simp only [callSpecialIfBound?,bindSpecialIfBound?];refine Yg (yr (yr (yr (I.type.here ((YY X hs).here ?_)))));refine yr (ku (wpAny_ite ?_));have b:=PySem.F.slot_object_eq.bind (.ref x)
  have fin:wpAny (model prog w) A (call (.builtin "object.__eq__") ([.ref x]++[.ref x])>>=fun v=>pure (some v)) (fun r s'=>wpAny (model prog w) A (match r with | some .notImplemented | none=>pure none | some v=>pure (some v)) (fun r s'=>∃ v,r=some v/\Q v s') E s') E s:=
   yr (call1 (yu (yu ⟨_,rfl,h⟩)))
  split
  ·exact yr (YR b (yu fin))
  ·exact wpAny_tryCatch (yr (YR b (yu fin)))
 unfold richCompare;simp only [oneThing_ref];refine Yg (yr (wpAny_cRoomFor hu ?_));refine yr (I.type.here (yr (I.type.here ?_)));rw [yy (by simp)];refine yr (yu ?_);simp only [YA,xx];refine yr (YQ one (fun r s' z=>?_) fun _ _ e=>e);obtain ⟨v,rfl,hq⟩:=z;exact yu hq
structure OEq (K:yg) (C:Addr):Prop where
 eq:PySem.W.findIn K (.ref C) "__eq__"=some (some (.builtin "object.__eq__"))
 ob:PySem.W.mroIn K C (.type "object")=some true
noncomputable def qf8 (K:yg):R2:=fun x y H Q=>qeq K false x y H Q\/∃ a C dx fs,x=.ref a/\y=.ref a/\H a=some (.ins C dx fs)/\OEq K C/\Q (.bl true) H
theorem k_eqW {X:Cx} {K:yg} (hK:X.K=K) (hu:X.A.units + 100 < cLine):OpR X (compareOp .Eq) (qf8 K):=by
 subst hK;intro pins s σ H x y u v Q I rx ry h;rcases h with h | ⟨a,C,dx,fs,rfl,rfl,ea,oe,q⟩
 ·exact k_eqU rfl hu pins s σ H x y u v Q I rx ry h
 ·cases rx;cases ry;obtain ⟨mA,O,_⟩:=qav I.hok ea;obtain ⟨od,J,_⟩:=O.look;exact own_eq_same (by omega) I.kIn J oe.eq oe.ob ⟨.bl true,H,I,rfl,q⟩
theorem qO {X:Cx}:MtR X "list.append" qdt:=mt_append
theorem qbl {X:Cx}:MtR X "list.extend" qdu:=mt_extend
theorem mtR_popAt {X:Cx}:MtR X "list.pop" qeh:=mt_popAt
section
variable {D:Ends} {σ:St} {H:Hp} {Q:VK} {t u:TS} {te ta tb tc:TE} {tas:TA} {K:yg} {sp:Sp} {E:XK} {EK:St->XK} {C:Addr} {f m:Str}
theorem vFldU (h:ta σ H fun x H1=>(∃ a C dx fs v,x=.ref a/\H1 a=some (.ins C dx fs)/\Cls K C/\NoAttr K C f/\fs.lookup f=some v/\Q v H1) \/
 (∃ a C dx fs v,x=.ref a/\IsX H1 a C (some dx)/\XAt K C/\NoAttr K C f/\H1 dx=some (.xd fs)/\fs.lookup f=some v/\Q v H1)):qfh K ta f σ H Q:=h
theorem vSFldU (h:te σ H fun y H1=>ta σ H1 fun x H2=>(∃ a C dx fs,x=.ref a/\H2 a=some (.ins C dx fs)/\Cls K C/\NoAttr K C f/\fs.length < 1000/\D.nx σ (upd H2 a (.ins C dx (qE f y fs)))) \/
 (∃ a C,x=.ref a/\H2 a=some (XN a C none)/\XAt K C/\NoAttr K C f/\∀ dx,H2 dx=none->D.nx σ (upd (upd H2 dx (.xd [(f,y)])) a (XN a C (some dx))))):qfi K ta te f D σ H:=h
theorem vXMake (h:tas σ H fun vs H1=>vs.length<=1000/\∀ x,H1 x=none->sp (.ref x::vs) (upd H1 x (XN x C none)) (fun v H2=>v=.non/\Q (.ref x) H2) E):tXMake C sp E tas σ H Q:=h
theorem vMake (h:tas σ H fun vs H1=>∀ x dx,H1 x=none->H1 dx=none->dx≠x->sp (.ref x::(vs++[])) (upd (upd H1 dx (.own x)) x (.ins C dx [])) (fun v H2=>v=.non/\Q (.ref x) H2) E):qeI C sp [] E tas σ H Q:=h
theorem vMeth (h:ta σ H fun x H1=>∃ a dx fs,x=.ref a/\H1 a=some (.ins C dx fs)/\fs.lookup m=none/\tas σ H1 fun vs H2=>sp (x::(vs++[])) H2 Q E):qdm C m sp [] E ta tas σ H Q:=h
theorem vVinit (h:tas σ H fun vs H1=>∃ a C y,vs=[.ref a,y]/\H1 a=some (XN a C none)/\XAt K C/\Q .non H1):tVinit K tas σ H Q:=h
theorem vCallS (h:tas σ H fun vs H1=>sp vs H1 Q (EK σ)):tCallS sp EK tas σ H Q:=h
theorem vMethS (h:ta σ H fun x H1=>∃ a dx fs,x=.ref a/\H1 a=some (.ins C dx fs)/\fs.lookup m=none/\tas σ H1 fun vs H2=>sp (x::vs) H2 Q (EK σ)):tMethS C m sp EK ta tas σ H Q:=h
theorem vMakeS (h:tas σ H fun vs H1=>∀ x dx,H1 x=none->H1 dx=none->dx≠x->sp (.ref x::vs) (upd (upd H1 dx (.own x)) x (.ins C dx [])) (fun v H2=>v=.non/\Q (.ref x) H2) (EK σ)):tMakeS C sp EK tas σ H Q:=h
theorem vRaise (h:te σ H fun x H1=>∃ a C dx,x=.ref a/\H1 a=some (XN a C dx)/\XAt K C/\EK σ (.ref C) dx (upd H1 a (XO a C dx))):tRaise K EK te D σ H:=h
theorem qbw {x y:V} {t cv:Value} {b:Bool} (ty:TyX K H x t) (hy:qb1 y=some cv) (hb:PySem.W.kitOne K t cv=some b) (h:Q (.bl b) H):qfj K [x,y] H Q:=⟨x,y,t,cv,b,rfl,ty,hy,hb,h⟩
end
section
variable {prog:Program} {w:World} {A:Around} {E:Value->Shared->Prop} {s:Shared}
theorem none_dict {a:Addr} {Q:Value->Shared->Prop} (hT:s.TypeIs (.ref a) "dict") (hu:A.units < cLine) (h:Q (.bool false) s):wpAny (model prog w) A (richCompare .Eq .none (.ref a)) Q E s:=by
 refine SeqAt.rc_eq_decline_or (k:=false) rfl hT (by decide) PySem.F.sub_dict_NoneType YJ PySem.F.slot_dict_eq_refl
  (fun _ hq=>call_gives YJ rfl PySem.F.entry_NoneType_eq (PySem.F.args_NoneType_eq_2 _ _) (SeqAt.NoneType___eq___none_ref_0 a) hq) (fun Q' hq=>?_) (fun _ hq=>YR (rfl:isSame .none (.ref a)=pure false) hq) (.inr hu) h
 refine xA PySem.F.slot_dict_eq_refl hT PySem.F.entry_dict_eq ?_ (PySem.F.args_dict_eq_2 _ _);show wpAny _ _ (Builtin.Dict.dictSlotArgs "__eq__" ⟨[.ref a,.none],[]⟩>>=_) _ _ s;refine yr ?_;unfold Builtin.Dict.dictSlotArgs;refine yr (wpAny_notOrdered_dict hT ?_);show wpAny _ _ (pure (Value.ref a,Value.none)) _ _ s;refine yu ?_;refine yr (wpAny_isInstance (T:="NoneType") (b:=false) rfl PySem.F.sub_NoneType_dict ?_);simp only [Bool.not_false,Xm];exact yr (wpAny_rule (yu ⟨_,rfl,hq⟩))
theorem none_own {K:yg} {x C:Addr} {ox:Obj} {od:Option Obj} {Q:Value->Shared->Prop} (hu:A.units < cLine) (X:K.In s.heap) (I:PySem.W.InstAt s.heap x ox C od) (oe:OEq K C) (hn:PySem.W.mroIn K C (.type "NoneType")=some false)
  (h:Q (.bool false) s):wpAny (model prog w) A (richCompare .Eq .none (.ref x)) Q E s:=by
 have t1:wpAny (model prog w) A (tryCompare .none "__eq__" (.ref x)) (fun r s'=>r=none/\s'=s) E s:=by
  unfold tryCompare;refine yr ?_;simp only [callSpecialIfBound?,bindSpecialIfBound?];refine Yg (yr (yr ?_));refine yr (YR (rfl:typeOf .none=pure (.type "NoneType")) ?_);refine YR YJ.lookup ?_;refine yr (ku (wpAny_ite ?_))
  have fin:wpAny (model prog w) A (call (.builtin "NoneType.__eq__") ([.none]++[.ref x])>>=fun v=>pure (some v)) (fun r s'=>wpAny (model prog w) A (match r with | some .notImplemented | none=>pure none | some v=>pure (some v)) (fun r s'=>r=none/\s'=s) E s') E s:=
   yr (call_gives YJ rfl PySem.F.entry_NoneType_eq (PySem.F.args_NoneType_eq_2 _ _) (SeqAt.NoneType___eq___none_ref_0 x) (yu (yu ⟨rfl,rfl⟩)))
  split
  ·exact yr (YR (YJ.bind .none) (yu fin))
  ·exact wpAny_tryCatch (yr (YR (YJ.bind .none) (yu fin)))
 have t2:wpAny (model prog w) A (tryCompare (.ref x) "__eq__" .none) (fun r s'=>r=none/\s'=s) E s:=by
  unfold tryCompare;refine yr ?_;simp only [callSpecialIfBound?,bindSpecialIfBound?];refine Yg (yr (yr (yr (I.type.here ((YY X oe.eq).here ?_)))));refine yr (ku (wpAny_ite ?_));have b:=PySem.F.slot_object_eq.bind (.ref x)
  have c:∀ {Q':Value->Shared->Prop},Q' .notImplemented s->wpAny (model prog w) A (call (.builtin "object.__eq__") [.ref x,.none]) Q' E s:=fun {Q'} q=>by
   refine XX (xX PySem.F.slot_object_eq.plain PySem.F.entry_object_eq (@PySem.W.check_slot (model prog w) _ _ s "object.__eq__" "object" "__eq__" (.ref x) [.none] [] _ (by decide +kernel) (by decide +kernel) (I.type.andThen (xt X oe.ob)) (PySem.F.args_object_eq_2 _ _) ?_));refine yr (yu (yr (YR (rfl:isSame (.ref x) .none=pure false) ?_)));exact yu q
  have fin:wpAny (model prog w) A (call (.builtin "object.__eq__") ([.ref x]++[.none])>>=fun v=>pure (some v)) (fun r s'=>wpAny (model prog w) A (match r with | some .notImplemented | none=>pure none | some v=>pure (some v)) (fun r s'=>r=none/\s'=s) E s') E s:=
   yr (c (yu (yu ⟨rfl,rfl⟩)))
  split
  ·exact yr (YR b (yu fin))
  ·exact wpAny_tryCatch (yr (YR b (yu fin)))
 unfold richCompare;refine Yg (yr (wpAny_cRoomFor hu ?_));show wpAny _ _ (typeOf .none>>=_) _ _ _;refine yr (YR (rfl:typeOf .none=pure (.type "NoneType")) (yr (I.type.here ?_)));rw [yE (by rfl)];refine yr ((xt X hn).here ?_);simp only [YA,xx];refine yr (YQ t1 (fun r s' z=>?_) fun _ _ e=>e);obtain ⟨rfl,rfl⟩:=z;simp only [Bool.not_false,Xm];refine yr (YQ t2 (fun r s' z=>?_) fun _ _ e=>e);obtain ⟨rfl,rfl⟩:=z;refine yr (wpAny_rule (yr (YR (rfl:isSame .none (.ref x)=pure false) (yu h))))
end
noncomputable def rNoneRef (K:yg):R2:=fun x y H Q=>∃ a,x=.non/\y=.ref a/\((∃ xs,SqL K H a xs\/SqT K H a xs)\/(∃ kvs,H a=some (.dK kvs))\/∃ C dx fs,H a=some (.ins C dx fs)/\OEq K C/\PySem.W.mroIn K C (.type "NoneType")=some false)/\Q (.bl false) H
noncomputable def qfy (K:yg):R2:=fun x y H Q=>qf8 K x y H Q\/rNoneRef K x y H Q
theorem zX {X:Cx} {K:yg} (hK:X.K=K) (hu:X.A.units + 100 < cLine):OpR X (compareOp .Eq) (qfy K):=by
 intro pins s σ H x y u v Q I rx ry h;rcases h with h | ⟨a,rfl,rfl,h,q⟩
 ·exact k_eqW hK hu pins s σ H x y u v Q I rx ry h
 ·subst hK;cases rx;cases ry;have fin:EP X pins σ Q (.bool false) s:=⟨.bl false,H,I,rfl,q⟩;rcases h with ⟨xs,hl | hl⟩ | ⟨kvs,ea⟩ | ⟨C,dx,fs,ea,oe,hn⟩
  ·obtain ⟨its,r,pl,_⟩:=I.list hl;exact SeqAt.RcAt.none_list pl.isList (by omega) _ _ _ _ fin
  ·obtain ⟨its,r,pl,_⟩:=I.tuple hl;exact SeqAt.RcAt.none_tuple pl (by omega) _ _ _ _ fin
  ·obtain ⟨_,_,vs,_,d⟩:=(show ObjOk X.prog X.w H s.heap a (.dK kvs) from I.hok a _ ea);exact none_dict d.typeIs (by omega) fin
  ·obtain ⟨mA,O,_⟩:=qav I.hok ea;obtain ⟨od,J,_⟩:=O.look;exact none_own (by omega) I.kIn J oe hn fin
noncomputable def XL (K:yg) (C:Addr) (bm:List Value):Prop:=∃ nm qn N bs hdct sn sub ab col dd k0 k1 k2 k3 k5,K.lookup C=some (excClassObj nm qn C N bs bm hdct sn sub ab col dd k0 k1 k2 k3 k5 "ValueError.__new__")
section
variable {K:yg} {C D:Addr} {bm bn:List Value}
end
end L2
namespace HT
open PySem PySem.Spec PyProof.Rows
variable {sl:Addr} {vs:Value}
section
variable {prog:Program} {w:World} {A:Around} {E:Value->Shared->Prop} {s:Shared}
theorem sliceApplied_rev {Q:Int×Int×Nat->Shared->Prop} (hs:s.heap.IsSliceOf sl .none .none vs) (ps:IsPart vs (some (-1)))
  (h:Q (1,-1,2) s):wpAny (model prog w) A (Builtin.Slice.sliceApplied (.ref sl) (pure ((2:Nat):Int))) Q E s:=by
 obtain ⟨os,hos,hcs,hds⟩:=id hs;unfold Builtin.Slice.sliceApplied Builtin.Slice.sliceFields;refine yr (yr (YZ hos hds (x:=.none) rfl (yr (YZ hos hds (x:=.none) rfl (yr (YZ hos hds (x:=vs) rfl (yu ?_)))))));refine yr (qaw ps ?_);show wpAny _ _ (if ((-1:Int)==0)=true then _ else _) _ _ s;rw [yy (by decide)];refine yr (XZ (yr (XZ (yr (yu ?_)))));exact yu h
theorem getItem_pair_rev {t:Addr} {x y:Value} {Q:Value->Shared->Prop} (ht:IsTup s.heap t #[x,y]) (hs:s.heap.IsSliceOf sl .none .none vs) (ps:IsPart vs (some (-1)))
  (h:Q (.ref s.heap.objs.size) { s with heap:=s.heap.push { cls:=.type "tuple",data:=.seq #[y,x] } }):wpAny (model prog w) A (getItem (.ref t) (.ref sl)) Q E s:=by
 have htake:sizeOk (.seq #[y,x]):=by
  show 2<=sizeLine
  decide
 obtain ⟨os,hos,hcs,hds⟩:=id hs;have hTs:s.TypeIs (.ref sl) "slice":=⟨os,hos,hcs⟩;unfold getItem
 try with_reducible refine Yg ?_
 first | refine yr (yu ?_) | skip
 refine yr (wpAny_sequenceKey ht.typeIs (by decide) ?_);refine yr (xz (name:=Str.ofString "__getitem__") ht.typeIs Yw
  (xA Yw ht.typeIs entry_tuple_getitem ?_ (args_tuple_getitem _ _)))
 show wpAny _ _ (Builtin.Tuple.tupleItemsOf (.ref t)>>=_) _ _ s;refine yr (tupleItemsOf_ ht ?_);refine yr (wpAny_typeOf hTs ?_);rw [yE (by decide)];refine yr (sliceApplied_rev hs ps ?_);show wpAny _ _ (if ((1:Int)==0&&(-1:Int)==1&&2==2)=true then _ else _) _ _ s;rw [yy (by decide)]
 first
  | exact yr (m:=Builtin.Tuple.tupleExact _) (YG (yu ⟨_,rfl,yu h⟩) htake)
  | exact yr (m:=Builtin.Tuple.tupleExact _) (YG (yr (yu (yu ⟨_,rfl,yu h⟩))) htake)
  | exact yr (yr (m:=Builtin.Tuple.tupleExact _) (YG (yu (yu ⟨_,rfl,yu h⟩)) htake))
  | exact yr (yr (m:=Builtin.Tuple.tupleExact _) (YG (yu ⟨_,rfl,yu h⟩) htake))
end
end HT
namespace L2
open PySem PySem.Spec PyProof.Rows
variable {H:Hp} {σ:St}
noncomputable def qf9 (K:yg) (te:TE) (ts:TO):TE:=fun σ H Q=>te σ H fun x H1=>ts σ H1 fun o H2=>o=some (-1)/\∃ a y z,x=.ref a/\SqT K H2 a [y,z]/\∀ p,H2 p=none->Q (.ref p) (upd H2 p (.tup [z,y]))
theorem vRev {K:yg} {te:TE} {ts:TO} {Q:VK} (h:te σ H fun x H1=>ts σ H1 fun o H2=>o=some (-1)/\∃ a y z,x=.ref a/\SqT K H2 a [y,z]/\∀ p,H2 p=none->Q (.ref p) (upd H2 p (.tup [z,y]))):qf9 K te ts σ H Q:=h
section
variable {X:Cx} {K:yg} {e st:Expr} {te:TE} {ts:TO} {p2 pos:Pos}
theorem pe_rev (hK:X.K=K) (he:PE X e te) (hs:PO X (some st) ts):PE X (.Subscript e (.Slice none none (some st) p2) pos) (qf9 K te ts):=by
 subst hK;intro pins s σ H Q I h;refine Subscript_ (thn (he pins s σ H _ I h) fun v s1 ⟨x,H1,I1,r1,q1⟩=>?_);refine wpAny_Slice ?_;rw [kj];refine yu ?_;refine yu ?_;refine thn (hs pins s1 σ H1 _ I1 q1) fun vt s2 ⟨o,H2,I2,pt,eo,a,y,z,ex,hx,q⟩=>?_;subst eo ex;cases r1;have I4:Inv X pins σ H2 { s2 with heap:=s2.heap.push { cls:=.type "slice",data:=.fields #[.none,.none,vt] } }:=I2.kept (t':=s2.toks) fun b ob q=>yv _ q;obtain ⟨its,r,ht,hz⟩:=I4.tuple hx;obtain ⟨u1,u2,rfl,ru1,ru2⟩:=qdl r;show wpAny (model X.prog X.w) X.A (subscriptTail e (.Slice none none (some st) p2) (.ref a) (.ref s2.heap.objs.size)) (EP X pins σ Q) X.xe { s2 with heap:=s2.heap.push { cls:=.type "slice",data:=.fields #[.none,.none,vt] } };refine tail_any (ops:=[.ref a,.ref s2.heap.objs.size]) ht.typeIs Yw.lookup (HT.getItem_pair_rev ht (X0 ..) pt ?_) (by with_unfolding_all rfl);refine ⟨.ref _,_,I4.laid (t':=s2.toks) (o:=.tup [z,y]) (fun b ob q=>yv _ q) (yh _) ?_,rfl,q _ (I4.hok.fresh (yh _))⟩;exact ⟨by show 2<=sizeLine;decide,_,.cons ru2 (.cons ru1 .nil),IsTup.new _ _⟩
noncomputable def rTupleU (K:yg):List V->Hp->VK->Prop:=fun xs H Q=>∃ p ys,xs=[.ref p]/\((SqL K H p ys/\∀ l,H l=none->Q (.ref l) (upd H l (.tup ys)))\/(SqT K H p ys/\Q (.ref p) H))
theorem qaD (hK:X.K=K):zi X (.type "tuple") (rTupleU K):=by subst hK;exact call_tuple_of
end
theorem Inv.turnedL {X:Cx} {pins:List (Addr×Obj)} {s:Shared} {h':Heap} {t':Nat} {fp:List Addr} (I:Inv X pins σ H s) (k:∀ b o,b∉fp->s.heap.get? b=some o->h'.get? b=some o) (hf:∀ b∈fp,qcm X pins H b):Inv X pins σ H { s with heap:=h',toks:=t' }:=by
 have nit:∀ b u,H b=some u->b∉fp:=fun b u e z=>by rw [(hf b z).1] at e;cases e
 have hL:X.env.locals∉fp:=fun z=>(hf _ z).2.1 rfl;refine I.step (g':=s.gens) (d':=s.drawn) (ch:=fp) (fun b hb=>?_) (fun b o _ _ hc e _=>k b o hc e) (fun b o _ _ hc e _=>⟨o.slots,k b o hc e⟩) (fun _ _ _ _ n=>n)
  (fun b o hc e=>⟨o,k b o hc e⟩) (fun _ _ e=>e) (fun _ _ _ e=>e) (fun b ps e=>⟨#[],by rw [e];simp⟩) (fun m hm=>?_) (fun b u e=>?_) I.bare
 ·obtain ⟨f0,f1,f2,f3,f4,f5⟩:=hf b hb;exact ⟨f3,f1,f4,f5⟩
 ·obtain ⟨o,es,ep,ho,r⟩:=hm;exact ⟨o,es,ep,k _ o hL ho,r⟩
 ·refine (I.hok b u e).stay (fun c v hc q=>k c v ?_ q) (fun _ q=>q) fun _ _ q=>q;rcases hc with z | z
  ·rw [z];exact nit b u e
  ·exact nit c _ z
noncomputable def Ite (K:yg) (a:Addr):It:=
 ⟨fun i H=>∃ xs x,SqL K H a xs/\xs[i]?=some x,fun i H x H'=>∃ t y,x=.ref t/\H t=none/\H'=upd H t (.tup [.int i,y])/\∀ xs,SqL K H a xs->xs[i]?=some y,fun i H=>∃ xs,SqL K H a xs/\xs.length<=i⟩
theorem push_some {h:Heap} {o v:Obj} {b:Addr} (e:(h.push o).get? b=some v) (ne:b≠h.objs.size):h.get? b=some v:=(Heap.get?_push_cases e).elim (fun z=>absurd z.1 ne) fun z=>z
noncomputable def iEnum (K:yg) (ta:TA):TI:=fun σ H R=>ta σ H fun vs H1=>∃ a xs,vs=[.ref a]/\SqL K H1 a xs/\R (Ite K a) H1
theorem vEnum {K:yg} {tas:TA} {R:It->Hp->Prop} (h:tas σ H fun vs H1=>∃ a xs,vs=[.ref a]/\SqL K H1 a xs/\R (Ite K a) H1):iEnum K tas σ H R:=h
section
variable {X:Cx}
end
end L2
namespace L2
open PySem PySem.Spec PyProof.Rows PySem.Builtin PySem.Builtin.Str
theorem qfk {a c:Nat} (h:a + 100 < c):a + 1 < c:=by omega
theorem vDGet2 {td ty tx:TE} {σ:St} {H:Hp} {Q:VK} (h:td σ H fun x H1=>∃ a,x=.ref a/\IsD H1 a/\ty σ H1 fun y H2=>tx σ H2 fun z H3=>∃ o,DGet H3 a y o/\Q (o.getD z) H3):tDGet2 td ty tx σ H Q:=h
end L2
namespace L2
open PySem PySem.Spec PyProof.Rows
theorem eqV_strD (a b:Str):eqV (.str a) (.str b)=decide (a=b):=by
 have e:eqV (.str a) (.str b)=(a==b):=by simp [eqV]
 rw [e,Yq,Ym,yY]
theorem qb4:∀ (ys:List Str) (y:Str) (m:Nat) (hm:m < ys.length),m < ys.idxOf y->ys[m]≠y
 | [],_,_,hm,_=>by simp at hm
 | a::r,y,m,hm,h=>by
  rw [List.idxOf_cons] at h;by_cases e:a=y
  ·subst e;simp at h
  ·have hb:(a==y)=false:=YB.mpr e;rw [hb] at h
   cases m with
   | zero=>exact e
   | succ k =>
    have hk:k < r.idxOf y:=by
     have h:k + 1 < r.idxOf y + 1:=h;omega
    exact qb4 r y k (by simpa using hm) hk
section
variable {X:Cx} {K:yg}
noncomputable def rIndex (K:yg):V->List V->Hp->VK->Prop:=fun x vs H Q=>∃ (p:Addr) (ys:List Str) (y:Str),x=.ref p/\vs=[.str y]/\SqL K H p (ys.map V.str)/\y∈ys/\Q (.int (ys.idxOf y:Nat)) H
theorem qcw (hK:X.K=K):MtR X "list.index" (rIndex K):=by
 subst hK;intro pins s σ H x vs v us Q I rx rv h;obtain ⟨p,ys,y,rfl,rfl,hq,hy,q⟩:=h;cases rx;obtain ⟨u,rfl,ru⟩:=rv.one;obtain ⟨its,r,pl,hz⟩:=I.list hq;obtain ⟨⟨cls,dd,data,sl⟩,ho,hc,n,hd⟩:=id pl.isList;simp only at hc hd;subst hc hd;have fs:(ys.map V.str).all zQ=true:=by rw [kF];exact YV.mpr fun _ _=>rfl
 have hlen:(ys.map V.str).length=its.length:=r.length;rw [ya] at hlen;have hj:ys.idxOf y < ys.length:=List.idxOf_lt_length_iff.mpr hy
 have at_:∀ (m:Nat) (hm:m < ys.length) (hm':m < its.toArray.size),eqU (.str y) its.toArray[m]=decide (ys[m]=y):=fun m hm hm'=>by
  have g:(ys.map V.str)[m]?=some (.str ys[m]):=by rw [yd,yb hm];rfl
  obtain ⟨w,hw,rw'⟩:=r.get g
  have e:its.toArray[m]=w:=by
   have:its.toArray[m]?=some w:=by simpa using hw
   rw [xZ hm'] at this;exact ym this
  rw [e,qds rw' rfl,eqV_strD]
 have hi:ys.length<=sizeLine:=by rw [ya] at hz;exact hz
 have hsl:sizeLine < 2 ^ 63 - 1:=by decide
 refine X1 xD ⟨_,ho,rfl⟩ PySem.F.entry_list_index (PySem.F.args_list_index_2 _ _)
  (SeqAt.list_indexAt p its.toArray n dd sl u (eqU (.str y)) (ys.idxOf y) (by simpa [<- hlen] using hj) (by omega) ?_ ?_) ⟨ho,fun w hw=>zF ru rfl r fs w (by simpa using hw),.int _,H,I.tok _,⟨_,rfl⟩,q⟩
 ·rw [at_ _ hj];exact yI (YM hj)
 ·intro m hm hlt;rw [at_ m (by omega)];exact yl fun e=>qb4 ys y m (by omega) hlt e
end
theorem qb5 (xs:List V) (k:Nat):qbG xs none (some (k:Int))=xs.take k:=by
 unfold qbG;rw [HT.sIx_none,HT.sIx_nat,List.drop_zero,kP];by_cases h:k<=xs.length
 ·rw [XG h]
 ·rw [Xw (by omega),Xo (yh _),Xo (by omega)]
theorem qb6 (xs:List V) (k:Nat):qbG xs (some (k:Int)) none=xs.drop k:=by
 unfold qbG;rw [HT.sIx_none,HT.sIx_nat];by_cases h:k<=xs.length
 ·rw [XG h,Xo (by rw [Xv];omega)]
 ·rw [Xw (by omega),List.drop_length,List.drop_of_length_le (by omega)];simp
section
variable {X:Cx} {K:yg}
end
end L2
namespace HT
open PySem PySem.Spec PyProof.Rows
section
variable {prog:Program} {w:World} {A:Around} {E:Value->Shared->Prop} {s:Shared}
end
end HT
namespace L2
open PySem PySem.Spec PyProof.Rows
noncomputable def tStep (K:yg) (te:TE) (ts:TO):TE:=fun σ H Q=>te σ H fun x H1=>ts σ H1 fun o H2=>∃ a y z,x=.ref a/\SqT K H2 a [y,z]/\((o=some (-1)/\∀ p,H2 p=none->Q (.ref p) (upd H2 p (.tup [z,y])))\/(o=some 1/\Q (.ref a) H2))
theorem vStep {K:yg} {te:TE} {ts:TO} {σ:St} {H:Hp} {Q:VK} (h:te σ H fun x H1=>ts σ H1 fun o H2=>∃ a y z,x=.ref a/\SqT K H2 a [y,z]/\((o=some (-1)/\∀ p,H2 p=none->Q (.ref p) (upd H2 p (.tup [z,y])))\/(o=some 1/\Q (.ref a) H2))):tStep K te ts σ H Q:=h
section
variable {X:Cx} {K:yg} {e st:Expr} {te:TE} {ts:TO} {p2 pos:Pos}
end
noncomputable def FG (K:yg) (nm:Str) (st:Stmt):Prop:=∃ f fd,PySem.W.nsIn K mainGlobals nm=some (some (.ref f))/\Fun K nm nm st f fd
noncomputable def FM (K:yg) (C:Addr) (m ql:Str) (st:Stmt):Prop:=∃ f fd,PySem.W.findIn K (.ref C) m=some (some (.ref f))/\PySem.W.isFn K (.ref f)=true/\Fun K m ql st f fd
structure XQ (K:yg) (C:Addr):Prop where
 xa:PySem.W.findIn K (.ref C) "__getattribute__"=some (some (.builtin "BaseException.__getattribute__"))
 xb:PySem.W.findIn K (.ref C) "__getattr__"=some none
 xd:PySem.W.mroIn K C (.type "BaseException")=some true
 xe:PySem.W.mroIn K C (.type "object")=some true
 xf:PySem.W.hasDictIn K C=true
 xg:PySem.W.findIn K (.ref C) "__class__"=some (some (.builtin "object.__class__"))
 xh:PySem.W.findIn K (.ref C) "__setattr__"=some (some (.builtin "object.__setattr__"))
 p:PySem.W.keepIn K (.ref C)=true
section
variable {P:Program} {w:World} {K:yg} {mg:Str->Option Value} {base h:Heap} {CX:CXT} {k:Nat} {sp:Sp} {st:Stmt} {f:Addr} {fd:FuncData} {ps:List Str} {nm m ql x:Str} {C:Addr}
theorem lN0 {P:List Value->Prop} (h:P []):∀ us:List Value,us.length=0->P us:=fun us e=>by rw [List.eq_nil_of_length_eq_zero e];exact h
theorem lNs {P:List Value->Prop} {n:Nat} (h:∀ a r,r.length=n->P (a::r)):∀ us:List Value,us.length=n+1->P us:=fun us e=>by
 cases us with
 |nil=>cases e
 |cons a r=>exact h a r (Nat.succ.inj e)
theorem lN1 {P:List Value->Prop} (h:∀ a,P [a]):∀ us:List Value,us.length=1->P us:=lNs fun a=>lN0 (h a)
theorem lN2 {P:List Value->Prop} (h:∀ a b,P [a,b]):∀ us:List Value,us.length=2->P us:=lNs fun a=>lN1 (h a)
theorem lN3 {P:List Value->Prop} (h:∀ a b c,P [a,b,c]):∀ us:List Value,us.length=3->P us:=lNs fun a=>lN2 (h a)
theorem lN4 {P:List Value->Prop} (h:∀ a b c d,P [a,b,c,d]):∀ us:List Value,us.length=4->P us:=lNs fun a=>lN3 (h a)
noncomputable abbrev BA (x ql:Str) (st:Stmt) (ps:List Str):Prop:=∀ (kV doc pm:Value) (an:Option Addr) (cdv ct:Value) (us:List Value),us.length=ps.length->bindArgs (PySem.W.fnOf x ql (zV st) (zz st) (qh st) .none kV doc pm an cdv ct) ⟨us,[]⟩=pure (ps.zip us)
theorem fg_mk (X:K.In h) (G:h.Ns mainGlobals mg) (a:PySem.W.nsIn K mainGlobals nm=some (some (.ref f))) (F:Fun K nm nm st f fd) (o:FnOk P w K mg base CX k f fd ps sp)
  (hb:BA nm nm st ps:=by first | (exact fun _ _ _ _ _ _=>lN1 fun _=>rfl) | (exact fun _ _ _ _ _ _=>lN2 fun _ _=>rfl) | (exact fun _ _ _ _ _ _=>lN3 fun _ _ _=>rfl) | (exact fun _ _ _ _ _ _=>lN4 fun _ _ _ _=>rfl)) :
  DefOk P w K mg base CX k nm ps sp:=⟨_,_,o,PySem.W.mg_of X G a,F.kp,F.binds hb⟩
theorem fm_mk (wcl:Cls K C) (a:PySem.W.findIn K (.ref C) m=some (some (.ref f))) (n:PySem.W.isFn K (.ref f)=true) (F:Fun K m ql st f fd) (o:FnOk P w K mg base CX k f fd ps sp)
  (hb:BA m ql st ps:=by first | (exact fun _ _ _ _ _ _=>lN1 fun _=>rfl) | (exact fun _ _ _ _ _ _=>lN2 fun _ _=>rfl) | (exact fun _ _ _ _ _ _=>lN3 fun _ _ _=>rfl) | (exact fun _ _ _ _ _ _=>lN4 fun _ _ _ _=>rfl)) :
  MethOk P w K mg base CX k C m ps sp:=⟨⟨_,_,o,⟨a,n,F.kp⟩,F.binds hb⟩,wcl⟩
theorem fw_mk (X:K.In h) (G:h.Ns mainGlobals mg) (c:PySem.W.nsIn K mainGlobals x=some (some (.ref C))) (w5:PySem.W.makesIn K C=true) (w6:PySem.W.keepIn K (.ref C)=true) (a:PySem.W.findIn K (.ref C) "__init__"=some (some (.ref f))) (n:PySem.W.isFn K (.ref f)=true) (F:Fun K "__init__" ql st f fd) (o:FnOk P w K mg base CX k f fd ps sp)
  (hb:BA "__init__" ql st ps:=by first | (exact fun _ _ _ _ _ _=>lN1 fun _=>rfl) | (exact fun _ _ _ _ _ _=>lN2 fun _ _=>rfl) | (exact fun _ _ _ _ _ _=>lN3 fun _ _ _=>rfl)) :
  MakeOk P w K mg base CX k C x ps sp:=⟨⟨_,_,o,⟨w5,a,n,w6⟩,F.binds hb⟩,PySem.W.mg_of X G c⟩
end
end L2
namespace HT
open PySem PySem.Spec PyProof.Rows
section
variable {prog:Program} {w:World} {A:Around} {E:Value->Shared->Prop} {s:Shared}
theorem assign_Tuple_list {env:Env} {elts:List Expr} {x1} {pos:Pos} {l:Addr} {items:Array Value} {Q:Unit->Shared->Prop} (hh:A.handled=none) (hl:s.heap.IsList l items)
  (hn:(assignEach elts env).length=items.size) (hstar:(assignEach elts env).findIdx? (·.1)=none)
  (h:∀ h',Heap.ExtBut s.heap.objs.size s.heap h'->wpAny (model prog w) A (assignInOrder ((assignEach elts env).map (·.2)) items.toList) Q E { s with heap:=h' }) :
  wpAny (model prog w) A (assign (.Tuple elts x1 pos) env (.ref l)) Q E s:=by
 rw [assign_Tuple];refine yr (ki ?_);unfold unpack;rw [hn,hstar];exact yr (Yg (PySem.W.kun_itemsOf hh hl h))
end
end HT
namespace L2
open PySem PySem.Spec PyProof.Rows
variable {D:Ends} {H:Hp} {P:Program} {R:It->Hp->Prop} {X:Cx} {a b tg:Expr} {es:List Expr} {n:Nat} {p pos:Pos} {ta:TA} {te:TE} {w:World} {σ:St}
noncomputable def qeN (K:yg) (n:Nat) (t:TGs):TG:=fun v σ H Q=>∃ a xs,v=.ref a/\(SqT K H a xs\/SqL K H a xs)/\xs.length=n/\t xs σ H Q
theorem vAsgU {K:yg} {gs:TGs} (h:te σ H fun x H1=>qeN K n gs x σ H1 D.nx):qeV te (qeN K n gs) D σ H:=h
section
variable {X:Cx} {K:yg} {pos p:Pos} {x:Str}
theorem pg_tupU {k:Nat} {t:TGs} (hc:X.calm=true) (h:PGs X es t)
  (hn:(assignEach es X.env).length=n:=by rfl) (hst:(assignEach es X.env).findIdx? (·.1)=none:=by rfl):PG X (.Tuple es k pos) (qeN X.K n t):=by
 intro pins s σ H v u Q I r hw;obtain ⟨a,xs,e1,hq,hl,hw⟩:=hw;rcases hq with hq | hq
 ·exact qdg hc h hn hst pins s σ H v u Q I r ⟨a,xs,e1,hq,hl,hw⟩
 ·subst e1;cases r;obtain ⟨its,rv,ht,hz⟩:=I.list hq;refine HT.assign_Tuple_list (I.ok.hd hc) ht.isList (by simp [hn,<- hl,rv.length]) hst fun h' hx=>?_;have I1:Inv X pins σ H { s with heap:=h' }:=I.kept (t':=s.toks) fun b o e=>hx b o (yF (yH e)) e;exact h pins _ σ H xs _ Q I1 (by simpa using rv) hw
end
section
variable {X:Cx} {K:yg} {e lo st:Expr} {te:TE} {tl ts:TO} {p2 pos:Pos}
noncomputable def qga (K:yg) (te:TE):TI:=fun σ H R=>te σ H fun v H1=>∃ a xs,v=.ref a/\SqL K H1 a xs/\R (Itl K a) H1
theorem viLst {K:yg} (h:te σ H fun v H1=>∃ a xs,v=.ref a/\SqL K H1 a xs/\R (Itl K a) H1):qga K te σ H R:=h
theorem ki_lst (hK:X.K=K) (he:PE X e te):PI X tg e (qga K te):=by
 subst hK;intro pins s σ H R I h;refine thn (he pins s σ H _ I h) fun v s1 ⟨y,H1,I1,r1,a,xs,ey,hq,q⟩=>?_;subst ey;cases r1
 have fp:∀ b∈[s1.heap.objs.size],qcm X pins H1 b:=fun b hb=>by
  have e:b=s1.heap.objs.size:=by simpa using hb
  subst e;exact I1.fpOk (yh _) (I1.hok.fresh (yh _))
 obtain ⟨its,rv,p,hz⟩:=I1.list hq;exact X8 p.isList ⟨s1.heap.objs.size,[s1.heap.objs.size],_,_,H1,rfl,I1.kept (t':=s1.toks) fun b o e=>yv _ e,qbL a _,⟨_,yO _ rfl,rfl,rfl⟩,fp,q⟩
end
noncomputable def Itz (K:yg) (a b:Addr):It:=
 ⟨fun i H=>∃ xs ys x y,SqL K H a xs/\SqL K H b ys/\xs[i]?=some x/\ys[i]?=some y,fun i H v H'=>∃ t x y,v=.ref t/\H t=none/\H'=upd H t (.tup [x,y])/\(∀ xs,SqL K H a xs->xs[i]?=some x)/\∀ ys,SqL K H b ys->ys[i]?=some y,fun i H=>∃ xs ys,SqL K H a xs/\SqL K H b ys/\(xs.length<=i\/ys.length<=i)⟩
noncomputable def tnZ (z TI TO i1 i2 a b:Addr) (i:Nat) (h:Heap):Prop:=IsZip h z TI TO .none/\IsPair h TI (.ref i1) (.ref i2)/\(∃ u v,IsPair h TO u v)/\h.IsListIter i1 a i/\h.IsListIter i2 b i
theorem turn_zip {K:yg} {x1} (a b z TI TO i1 i2:Addr) (D:ZipApart z TI TO i1 i2 a b):Turn P w K (.Tuple es x1 pos) (Itz K a b) [z,TI,TO,i1,i2] z (tnZ z TI TO i1 i2 a b) where
 mem:=by simp
 obj:=fun i h st c hc=>by
  obtain ⟨hz,hTI,⟨u,v,hTO⟩,⟨o1,e1,c1,d1⟩,⟨o2,e2,c2,d2⟩⟩:=st;simp only [yx,y0,YU] at hc;rcases hc with rfl | rfl | rfl | rfl | rfl
  ·exact ⟨_,hz,fun v z=>by have z':Data.fields _=Data.cell v:=z;cases z'⟩
  ·exact ⟨_,hTI,fun v z=>by have z':Data.seq _ _=Data.cell v:=z;cases z'⟩
  ·exact ⟨_,hTO,fun v z=>by have z':Data.seq _ _=Data.cell v:=z;cases z'⟩
  ·exact ⟨o1,e1,fun v z=>by rw [d1] at z;cases z⟩
  ·exact ⟨o2,e2,fun v z=>by rw [d2] at z;cases z⟩
 keep:=fun i h h' st k=>by
  obtain ⟨hz,hTI,⟨u,v,hTO⟩,h1,h2⟩:=st;exact ⟨k z (by simp) _ hz,k TI (by simp) _ hTI,⟨u,v,k TO (by simp) _ hTO⟩,h1.at fun o x=>k i1 (by simp) o x,h2.at fun o x=>k i2 (by simp) o x⟩
 item:=by
  intro X hP hw hK hc i pins s σ H E I hf st hg;subst hP hw hK;obtain ⟨hz,hTI,⟨u,v,hTO⟩,h1,h2⟩:=st;obtain ⟨xs,ys,x,y,hq,hq2,hx,hy⟩:=hg;obtain ⟨its,rv,p,_⟩:=I.list hq;obtain ⟨its2,rv2,p2,_⟩:=I.list hq2;obtain ⟨u1,hu1,ru1⟩:=rv.get hx;obtain ⟨u2,hu2,ru2⟩:=rv2.get hy;refine wpAny_pyNext_zip_item D hz hTI hTO h1 h2 p.isList p2.isList (x:=u1) (y:=u2) (by simpa using hu1) (by simpa using hu2) fun h' hz' hTO' h1' h2' hT hsz hk=>?_;refine ⟨_,rfl,wpAny_letOwnedTupleGo_zip hz' fun h3 hz3 hs3=>?_⟩;have fre:H s.heap.objs.size=none:=I.hok.fresh (yh _);have lt:∀ {c o},s.heap.get? c=some o->s.heap.objs.size≠c:=fun e=>Yh (yH e);have nz:=lt hz;have nTI:=lt hTI;have nTO:=lt hTO;have n1:s.heap.objs.size≠i1:=by obtain ⟨_,e,_⟩:=h1;exact lt e
  have n2:s.heap.objs.size≠i2:=by obtain ⟨_,e,_⟩:=h2;exact lt e
  have I1:Inv X pins σ (upd H s.heap.objs.size (.tup [x,y])) { s with heap:=s.heap.push { cls:=.type "tuple",data:=.seq #[u1,u2] },toks:=s.toks }:=
   I.laid (fun b u e=>yv _ e) (yh _) ⟨by show 2<=sizeLine;decide,[u1,u2],.cons ru1 (.cons ru2 .nil),⟨_,yO _ rfl,rfl,_,rfl⟩⟩
  have hf1:∀ c∈[z,TI,TO,i1,i2],qcm X pins (upd H s.heap.objs.size (.tup [x,y])) c:=fun c hc=>by
   obtain ⟨f0,f⟩:=hf c hc;refine ⟨?_,f⟩;rw [qe]
   ·exact f0
   ·simp only [yx,y0,YU] at hc;rcases hc with rfl | rfl | rfl | rfl | rfl
    ·exact nz.symm
    ·exact nTI.symm
    ·exact nTO.symm
    ·exact n1.symm
    ·exact n2.symm
  have kk:∀ c o,c∉[z,TI,TO,i1,i2]->(s.heap.push { cls:=.type "tuple",data:=.seq #[u1,u2] }).get? c=some o->h3.get? c=some o:=fun c o hc e=>by
   simp only [yx,y0,YU,not_or] at hc;refine hs3.extBut _ _ hc.1 ?_;by_cases hz:c=s.heap.objs.size
   ·subst hz;rw [yO _ rfl] at e;cases e;exact hT
   ·exact hk c o hc.1 hc.2.2.1 hc.2.2.2.1 hc.2.2.2.2 (push_some e hz)
  have I2:=I1.turnedL (h':=h3) (t':=s.toks) (fp:=[z,TI,TO,i1,i2]) kk hf1;refine ⟨.ref s.heap.objs.size,_,I2,rfl,⟨_,x,y,rfl,fre,rfl,fun xs' hx'=>by rw [I.list_inj hx' hq];exact hx,fun ys' hy'=>by rw [I.list_inj hy' hq2];exact hy⟩,⟨hz3,?_,⟨_,_,hs3.extBut _ _ D.TOz hTO'⟩,h1'.extBut hs3.extBut D.i1z,h2'.extBut hs3.extBut D.i2z⟩,fun c hc=>(hf1 c hc).1⟩;exact hs3.extBut _ _ D.TIz (hk _ _ D.TIz D.TITO D.TIi1 D.TIi2 hTI)
 done:=by
  intro X hP hw hK hc i pins s σ H E I hf st hg;subst hP hw hK;obtain ⟨hz,hTI,⟨u,v,hTO⟩,h1,h2⟩:=st;obtain ⟨xs,ys,hq,hq2,he⟩:=hg;obtain ⟨its,rv,p,_⟩:=I.list hq;obtain ⟨its2,rv2,p2,_⟩:=I.list hq2;have l1:=rv.length;have l2:=rv2.length;refine wpAny_pyNext_zip_end (I.ok.hd hc) D hz hTI hTO h1 h2 p.isList p2.isList (he.imp (fun e=>xI (by simp;omega)) fun e=>xI (by simp;omega)) fun h' hk=>⟨rfl,I.turnedL (t':=s.toks) (fp:=[z,TI,TO,i1,i2]) (fun c o hc e=>?_) hf⟩;simp only [yx,y0,YU,not_or] at hc;exact hk c o hc.1 hc.2.2.1 hc.2.2.2.1 hc.2.2.2.2 e
 self:=fun _ _ _ _ _ st h=>kx st.1 h
theorem qcV:bootBuiltins "zip"=some (.type "zip"):=by decide +kernel
noncomputable def qgb (K:yg) (ta:TA):TI:=fun σ H R=>ta σ H fun vs H1=>∃ a b xs ys,vs=[.ref a,.ref b]/\SqL K H1 a xs/\SqL K H1 b ys/\R (Itz K a b) H1
theorem vZip {K:yg} {tas:TA} (h:tas σ H fun vs H1=>∃ a b xs ys,vs=[.ref a,.ref b]/\SqL K H1 a xs/\SqL K H1 b ys/\R (Itz K a b) H1):qgb K tas σ H R:=h
theorem pi_zip {K:yg} {x1} {tp:Pos} (hK:X.K=K) (hg:Gl X "zip") (hm:X.mg "zip"=none) (ha:PA X [a,b] ta) (hs:starEach [a,b] X.env=[(false,eval a X.env),(false,eval b X.env)]:=by rfl) (hs2:starEach [b] X.env=[(false,eval b X.env)]:=by rfl):PI X (.Tuple es x1 tp) (.Call (.Name "zip" p) [a,b] [] pos) (qgb K ta):=by
 subst hK;intro pins s σ H R I h;refine Call_ (zw I hg hm qcV (Yi (thn (ha pos pins s σ H _ I h) fun us s1 ⟨vs,H1,I1,r1,q1⟩=>?_) (by rw [hs,hs2]) (by rw [hs2];rfl)));obtain ⟨a,b,xs,ys,e,hq,hq2,q⟩:=q1;subst e
 cases r1 with
 | cons r rr =>
  cases rr with
  | cons r2 rr =>
   cases rr;cases r;cases r2;obtain ⟨its,rv,pl,_⟩:=I1.list hq;obtain ⟨its2,rv2,pl2,_⟩:=I1.list hq2;have lta:a < s1.heap.objs.size:=by obtain ⟨_,e,_⟩:=pl.isList;exact yH e
   have ltb:b < s1.heap.objs.size:=by obtain ⟨_,e,_⟩:=pl2.isList;exact yH e
   refine call_zip_2 pl.isList pl2.isList fun h' hz hTI hTO hi1 hi2 hsz hk=>kx hz ?_;refine ⟨_,[s1.heap.objs.size + 4,s1.heap.objs.size + 2,s1.heap.objs.size + 3,s1.heap.objs.size,s1.heap.objs.size + 1],_,_,H1,rfl,I1.kept (t':=s1.toks) hk,turn_zip a b _ _ _ _ _ (PySem.W.ktu_apart _ _ _ lta ltb),⟨hz,hTI,⟨_,_,hTO⟩,hi1,hi2⟩,fun c hc=>?_,q⟩;simp only [yx,y0,YU] at hc;rcases hc with rfl | rfl | rfl | rfl | rfl
   ·exact I1.fpOk (xE _ _) (I1.hok.fresh (xE _ _))
   ·exact I1.fpOk (xE _ _) (I1.hok.fresh (xE _ _))
   ·exact I1.fpOk (xE _ _) (I1.hok.fresh (xE _ _))
   ·exact I1.fpOk (yh _) (I1.hok.fresh (yh _))
   ·exact I1.fpOk (xW _) (I1.hok.fresh (xW _))
noncomputable def qgc (K:yg) (te:TE) (ts:TO):TE:=fun σ H Q=>te σ H fun x H1=>ts σ H1 fun o H2=>o=some (-1)/\∃ a xs,x=.ref a/\SqL K H2 a xs/\∀ p,H2 p=none->Q (.ref p) (upd H2 p (.lst xs.reverse))
theorem qfJ {K:yg} {ts:TO} {Q:VK} (h:te σ H fun x H1=>ts σ H1 fun o H2=>o=some (-1)/\∃ a xs,x=.ref a/\SqL K H2 a xs/\∀ p,H2 p=none->Q (.ref p) (upd H2 p (.lst xs.reverse))):qgc K te ts σ H Q:=h
theorem qcW:∀ {xs:List V} {us:List Value},Vals xs us->Vals xs.reverse us.reverse
 | _,_,.nil=>.nil
 | _,_,.cons r t=>by
  rw [List.reverse_cons,List.reverse_cons];exact (qcW t).append (.cons r .nil)
section
variable {X:Cx} {K:yg} {e st:Expr} {te:TE} {ts:TO} {p2 pos:Pos}
theorem qdC (hK:X.K=K) (he:PE X e te) (hs:PO X (some st) ts):PE X (.Subscript e (.Slice none none (some st) p2) pos) (qgc K te ts):=by
 subst hK;intro pins s σ H Q I h;refine Subscript_ (thn (he pins s σ H _ I h) fun v s1 ⟨x,H1,I1,r1,q1⟩=>?_);refine wpAny_Slice ?_;rw [kj];refine yu ?_;refine yu ?_;refine thn (hs pins s1 σ H1 _ I1 q1) fun vt s2 ⟨o,H2,I2,pt,eo,a,xs,ex,hx,q⟩=>?_;subst eo ex;cases r1;have I4:Inv X pins σ H2 { s2 with heap:=s2.heap.push { cls:=.type "slice",data:=.fields #[.none,.none,vt] } }:=I2.kept (t':=s2.toks) fun b ob q=>yv _ q;obtain ⟨its,r,ht,hz⟩:=I4.list hx;have hlen:=r.length;show wpAny (model X.prog X.w) X.A (subscriptTail e (.Slice none none (some st) p2) (.ref a) (.ref s2.heap.objs.size)) (EP X pins σ Q) X.xe { s2 with heap:=s2.heap.push { cls:=.type "slice",data:=.fields #[.none,.none,vt] } };refine tail_any (ops:=[.ref a,.ref s2.heap.objs.size]) ht.isList.typeIs X6.lookup (wpAny_getItem_list_slice ht.isList (X0 ..) .none .none pt (by decide) ?_ (by rw [yw]<;>omega)) (by with_unfolding_all rfl);rw [PySem.W.krv_pick];refine ⟨.ref _,_,I4.laid (t':=s2.toks) (o:=.lst xs.reverse) (fun b ob q=>yv _ q) (yh _) ?_,rfl,q _ (I4.hok.fresh (yh _))⟩;exact ⟨by rw [Yl];exact hz,_,0,qcW r,yO _ rfl⟩
end
noncomputable def tLR (ta:TA):TE:=fun σ H Q=>ta σ H fun vs H1=>∃ n:Nat,vs=[.int n]/\n<=1000/\∀ l,H1 l=none->Q (.ref l) (upd H1 l (.lst ((List.range n).map fun i=>V.int ((i:Nat):Int))))
theorem vLR {Q:VK} (h:ta σ H fun vs H1=>∃ n:Nat,vs=[.int n]/\n<=1000/\∀ l,H1 l=none->Q (.ref l) (upd H1 l (.lst ((List.range n).map fun i=>V.int ((i:Nat):Int))))):tLR ta σ H Q:=h
section
variable {X:Cx} {a:Expr} {ta:TA} {p p2 pos pos2:Pos}
theorem qdD (hc:X.calm=true) (hg:Gl X "list") (hg2:Gl X "range") (hm:X.mg "list"=none) (hm2:X.mg "range"=none) (ha:PA X [a] ta) (hs:starEach [a] X.env=[(false,eval a X.env)]:=by rfl)
  (he:starEach [.Call (.Name "range" p2) [a] [] pos2] X.env=[(false,eval (.Call (.Name "range" p2) [a] [] pos2) X.env)]:=by rfl):PE X (.Call (.Name "list" p) [.Call (.Name "range" p2) [a] [] pos2] [] pos) (tLR ta):=by
 intro pins s σ H Q I h;refine Call_ (zw I hg hm xN (Yi (T:="list") ?_ he rfl));rw [he];show wpAny _ _ (spliced ((false,eval (.Call (.Name "range" p2) [a] [] pos2) X.env)::[])) _ _ s;refine Xf ?_;refine Call_ (zw I hg2 hm2 boot_range (Yi (thn (ha pos2 pins s σ H _ I h) fun us s1 ⟨vs,H1,I1,r1,q1⟩=>?_) hs rfl));obtain ⟨n,e,hn,q⟩:=q1;subst e
 cases r1 with
 | cons r rr =>
  cases rr;obtain ⟨t,rfl⟩:=r;refine call_range_1 (Xl ?_);refine call_list_range (n:=n) (I1.ok.hd hc) (IsRange.new ..) (small_one (by omega) (by omega) (by omega) (by omega)) (by rw [rangeSize_one];split<;>omega) (by omega) fun h' tk acc' c' hk hS hI=>?_;have e1:acc'.toList.length=n:=by rw [Y4];exact hI.1
  have hv:Vals ((List.range n).map fun i=>V.int ((i:Nat):Int)) acc'.toList:=by
   refine zd (by rw [ya,Yo,e1]) fun j y u h1 h2=>?_;have hj:j < n:=by have:=(yc.mp h1).1;rwa [ya,Yo] at this
   rw [yd,XU hj] at h1;cases h1;obtain ⟨t',ht'⟩:=hI.2 j u (by rw [<- xO];exact h2);exact ⟨t',by rw [ht'];congr 1;omega⟩
  have I2:Inv X pins σ H1 { s1 with heap:=s1.heap.push { cls:=.type "range",data:=.fields #[.int 0 s1.toks,.int n t,.int 1 (s1.toks + 1)] },toks:=s1.toks + 1 + 1 }:=I1.kept fun b o e=>yv _ e;refine ⟨.ref _,_,I2.laid (t':=tk) (o:=.lst ((List.range n).map fun i=>V.int ((i:Nat):Int))) (fun b ob q=>hk b ob q) (yh _) ?_,rfl,q _ (I2.hok.fresh (yh _))⟩;refine ⟨by rw [ya,Yo];exact yi hn (by decide),acc'.toList,c',hv,?_⟩;rw [Array.toArray_toList];exact hS
end
noncomputable def Itd (n:Nat):It:=⟨fun i _=>i < n,fun i H x H'=>H'=H/\x=.int ((n:Int) - i),fun i _=>n<=i⟩
theorem turn_down {K:yg} (it:Addr) (n:Nat):Turn P w K tg (Itd n) [it] it (fun i h=>IsRangeIter h it ((n:Int) + (i:Nat) * (-1)) ((n:Int) - (i:Nat)) (-1)) where
 mem:=by simp
 obj:=fun i h st b hb=>by
  obtain rfl:b=it:=by simpa using hb
  exact ⟨_,st,fun v z=>by have z':Data.fields _=Data.cell v:=z;cases z'⟩
 keep:=fun i h h' st k=>k it (by simp) _ st
 item:=by
  intro X hP hw hK hc i pins s σ H E I hf st hg;subst hP hw hK;obtain ⟨g0,g1,_,g3,g4,g5⟩:=hf it (by simp);refine (Walks.range (prog:=X.prog) (w:=X.w) (I.ok.hd hc) it (n:Int) (-1) n).item i s _ _ hg st fun v h' tk hv st' kk=>?_;obtain ⟨t,rfl⟩:=hv;have J:Inv X pins σ H { s with heap:=h',toks:=tk }:=I.turned (fun b o hb e=>kk b o (by simpa using hb) e) g0 g1 g3 g4 g5;refine ⟨_,rfl,qd6 (s:={ s with heap:=h',toks:=tk }) (n:="range_iterator") st' rfl rfl (by decide) ⟨.int ((n:Int) - i),H,J,⟨t,?_⟩,⟨rfl,rfl⟩,st',fun b hb=>(hf b hb).1⟩⟩
  congr 1
  omega
 done:=by
  intro X hP hw hK hc i pins s σ H E I hf st hg;subst hP hw hK;obtain ⟨g0,g1,_,g3,g4,g5⟩:=hf it (by simp);exact wpAny_pyNext_range_end (I.ok.hd hc) st (by have:n<=i:=hg;omega) fun h' eb=>⟨rfl,I.turned (t':=s.toks) (fun b o hb e=>eb b o hb e) g0 g1 g3 g4 g5⟩
 self:=fun _ _ _ _ _ st h=>wpAny_pyIter_rangeiter st h
noncomputable def qfl (ta:TA):TI:=fun σ H R=>ta σ H fun vs H1=>∃ n:Nat,vs=[.int n,.int 0,.int (-1)]/\n<=1000/\R (Itd n) H1
theorem vDown (h:ta σ H fun vs H1=>∃ n:Nat,vs=[.int n,.int 0,.int (-1)]/\n<=1000/\R (Itd n) H1):qfl ta σ H R:=h
theorem qb7 (n:Nat):Builtin.Range.rangeSize (n:Int) 0 (-1)=n:=by
 unfold Builtin.Range.rangeSize;rw [yy (by decide)];split
 ·rw [show (-(-1):Int)=1 by decide,Int.ediv_one];omega
 ·omega
theorem small_down (h:n<=1000):Builtin.Range.small (n:Int) 0 (-1)=true:=by
 unfold Builtin.Range.small;rw [qb7];simp only [Builtin.Range.rangeFitsLong,yT,kJ,xU,Ym];simp;omega
theorem pi_down {c:Expr} (hg:Gl X "range") (hm:X.mg "range"=none) (ha:PA X [a,b,c] ta) (hs:starEach [a,b,c] X.env=[(false,eval a X.env),(false,eval b X.env),(false,eval c X.env)]:=by rfl) (hs2:starEach [b,c] X.env=[(false,eval b X.env),(false,eval c X.env)]:=by rfl) :
  PI X tg (.Call (.Name "range" p) [a,b,c] [] pos) (qfl ta):=by
 intro pins s σ H R I h;refine Call_ (zw I hg hm boot_range (Yi (thn (ha pos pins s σ H _ I h) fun us s1 ⟨vs,H1,I1,r1,q1⟩=>?_) (by rw [hs,hs2]) (by rw [hs2];rfl)));obtain ⟨n,e,hn,q⟩:=q1;subst e
 cases r1 with
 | cons r rr =>
  cases rr with
  | cons r2 rr =>
   cases rr with
   | cons r3 rr =>
    cases rr;obtain ⟨t,rfl⟩:=r;obtain ⟨t2,rfl⟩:=r2;obtain ⟨t3,rfl⟩:=r3;refine call_range_3 (by decide) ?_ (.inl (PyProof.noPylong_small (by omega)));refine wpAny_pyIter_range (IsRange.new ..) (small_down hn) ?_;have J:Inv X pins σ H1 { s1 with heap:=s1.heap.push { cls:=.type "range",data:=.fields #[.int n t,.int 0 t2,.int (-1) t3] },toks:=s1.toks }:=I1.kept fun b o e=>yv _ e;refine ⟨_,[(s1.heap.push { cls:=.type "range",data:=.fields #[.int n t,.int 0 t2,.int (-1) t3] }).objs.size],_,_,H1,rfl,J.kept (t':=s1.toks) fun b o e=>yv _ e,turn_down _ n,?_,fun b hb=>?_,q⟩
    ·have e1:(n:Int) + ((0:Nat):Int) * (-1)=n:=by simp
     have e2:(n:Int) - ((0:Nat):Int)=Builtin.Range.rangeSize (n:Int) 0 (-1):=by rw [qb7];simp
     show IsRangeIter _ _ ((n:Int) + ((0:Nat):Int) * (-1)) ((n:Int) - ((0:Nat):Int)) (-1);rw [e1,e2];exact yO _ rfl
    ·obtain rfl:b=(s1.heap.push { cls:=.type "range",data:=.fields #[.int n t,.int 0 t2,.int (-1) t3] }).objs.size:=by simpa using hb
     exact J.fpOk (yh _) (J.hok.fresh (yh _))
theorem for_down {g:TG} {tb:TS} (Pv:Nat->St->Hp->Prop) (h0:Pv 0 σ H)
  (hs:∀ i σ H,i < n->Pv i σ H->g (.int ((n:Int) - i)) σ H fun σ2 H2=>tb { D with nx:=Pv (i + 1),ct:=Pv (i + 1),bk:=D.nx } σ2 H2) (hd:∀ σ H,Pv n σ H->D.nx σ H) :
  ∃ W:Nat->Nat->St->Hp->Prop,(∃ m,W 0 m σ H)/\∀ i m σ H,W i m σ H ->
   ((Itd n).stop i H/\D.nx σ H)\/((Itd n).go i H/\∃ N:St->Hp->Prop,(∀ σ' H',N σ' H'->∃ m',m' < m/\W (i + 1) m' σ' H')/\∀ x H',(Itd n).yld i H x H'->g x σ H' fun σ2 H2=>tb { D with nx:=N,ct:=N,bk:=D.nx } σ2 H2):=by
 refine ⟨fun i m σ H=>m=n - i/\i<=n/\Pv i σ H,⟨n,by simp,YC _,h0⟩,?_⟩;rintro i m σ H ⟨rfl,hi,p⟩;by_cases hlt:i < n
 ·refine .inr ⟨hlt,Pv (i + 1),fun σ' H' p'=>⟨n - (i + 1),by omega,rfl,hlt,p'⟩,fun x H' y=>?_⟩;obtain ⟨rfl,rfl⟩:=y;exact hs i σ _ hlt p
 ·obtain rfl:i=n:=by omega
  exact .inl ⟨yh _,hd σ H p⟩
end L2
namespace L2
structure Sb (V:Nat->Prop):Prop where
 z:V 0
 a:∀ x y,V x->V y->V (x ^^^ y)
noncomputable def jn (V:Nat->Prop) (x:Nat):Nat->Prop:=fun y=>V y\/V (y ^^^ x)
noncomputable def Spn:List Nat->Nat->Prop
 | []=>fun y=>y=0
 | a::L=>jn (Spn L) a
open Classical in
noncomputable def Bnd (b n v:Nat):Prop:=∀ i,v.testBit i=true->b<=i/\i < b + n
open Classical in
noncomputable def swp:Nat->Nat->List Nat->Nat
 | 0,_,_=>0
 | n + 1,b,L=>match L.filter (fun v=>v.testBit b) with
  | []=>swp n (b + 1) L
  | p::t=>1 + swp n (b + 1) (L.filter (fun v=>!v.testBit b)++t.map fun v=>v ^^^ p)
open Classical in
noncomputable def rk (L:List Nat):Nat:=swp 30 0 L
open Classical in
noncomputable def les:Nat×Nat->List (Nat×Nat)->Nat×Nat
 | s,[]=>s
 | s,o::os=>if s.1 ^^^ o.1 < s.1 then les (s.1 ^^^ o.1,s.2 ^^^ o.2) os else les s os
structure Ech (os:List (Nat×Nat)):Prop where
 nz:∀ o∈os,o.1≠0
 pw:os.Pairwise fun a b=>b.1.testBit a.1.log2=false
noncomputable def csm:List Nat->Nat->Nat->Nat
 | [],_,_=>0
 | a::L,k,c=>(if c.testBit k then a else 0) ^^^ csm L (k + 1) c
noncomputable def stp (st:List (Nat×Nat)) (n v:Nat):List (Nat×Nat):=if (les (v,1 <<< n) st).1=0 then st else st++[les (v,1 <<< n) st]
structure Stp (L:List Nat) (n:Nat) (st:List (Nat×Nat)):Prop where
 ech:Ech st
 sum:∀ o∈st,csm L 0 o.2=o.1
 low:∀ o∈st,o.2 < 2 ^ n
 lt:∀ o∈st,o.1 < 2 ^ 30
 spn:∀ v,Spn (st.map (·.1)) v↔Spn (L.take n) v
 free:st.map (fun o=>o.2.log2)=(List.range n).filter fun i=>decide (rk (L.take i) < rk (L.take (i + 1)))
 len:st.length<=n
end L2
namespace L2
open PySem PySem.Spec PyProof.Rows
variable {i j:Nat}
section
variable {X:Cx}
end
noncomputable def Fl:V->Prop
 | .non=>True
 | .bl _=>True
 | .int i=>-999999999999<=i/\i<=999999999999
 | _=>False
noncomputable def fD:V->PyData
 | .non=>.none
 | .bl b=>.bool b
 | .int i=>.int i
 | .str x=>.str x
 | _=>.none
noncomputable def FlS (xs:List V):Prop:=xs.length<=1000/\∀ x∈xs,Fl x
noncomputable def ShwT (H:Hp) (v:V) (t:Str):Prop:=match v with
 | .non=>t="None"
 | .bl b=>t=if b then Str.ofString "True" else Str.ofString "False"
 | .int i=>i.natAbs.log2 < 1920/\t=toString i
 | .str x=>(reprText x).length<=sizeLine/\t=reprText x
 | .ref p=>(∃ xs,H p=some (.lst xs)/\FlS xs/\t=(PyData.list (xs.map fD)).shown)\/∃ xs,H p=some (.tup xs)/\FlS xs/\t=(PyData.tuple (xs.map fD)).shown
 | _=>False
section
variable {X:Cx} {K:yg}
end
theorem gk_two {nl n:Nat} {K:yg} (hi:i < nl:=by decide) (hj:j < nl:=by decide):qdw nl (qfQ K n (qeE (qbp i) (qeE (qbp j) qfP))):=by
 intro x σ H Q ⟨a,xs,e,hs,hn,v,r,e1,v2,r2,e2,q⟩;obtain ⟨e3,q⟩:=q;refine ⟨a,xs,e,hs,hn,v,r,e1,v2,r2,e2,e3,q,?_,fun k hk=>?_⟩
 ·rw [XC,XC]
 ·rw [xo (by omega),xo (by omega)]
section
variable {K:yg} {a:Addr} {xs:List V} {g:TG} {tc:TT} {te:TE} {σ':St} {H1:Hp} {Q:V->Hp->Prop}
end
section
variable {K:yg} {a b:Addr} {xs ys:List V} {g:TG} {tc:TT} {te:TE} {σ':St} {H1:Hp} {Q:V->Hp->Prop}
theorem comp_zip (el:ys.length<=xs.length) (Pv:Nat->List V->Hp->Prop) (h0:Pv 0 [] H1) (hl:∀ i zs H,i<=ys.length->Pv i zs H->SqL K H a xs/\SqL K H b ys)
  (hs:∀ i x y t zs H,xs[i]?=some x->ys[i]?=some y->H t=none->Pv i zs H->g (.ref t) σ' (upd H t (.tup [x,y])) fun σ2 H2=>tc σ2 H2 fun b H3=>if b=true then te σ2 H3 fun v H4=>zs.length < sizeLine/\Pv (i + 1) (zs++[v]) H4 else Pv (i + 1) zs H3)
  (hd:∀ zs H,Pv ys.length zs H->zs.length<=sizeLine/\∀ p,H p=none->Q (.ref p) (upd H p (.lst zs))):qdx (Itz K a b) g tc te σ' H1 Q:=by
 refine ⟨fun i m zs H=>m=ys.length - i/\i<=ys.length/\Pv i zs H,⟨ys.length,by simp,YC _,h0⟩,?_⟩;rintro i m zs H ⟨rfl,hi,p⟩;obtain ⟨q,q2⟩:=hl i zs H hi p;by_cases hlt2:i < ys.length
 ·have hlt:i < xs.length:=by omega
  refine .inr ⟨⟨xs,ys,xs[i],ys[i],q,q2,by simp [hlt],by simp [hlt2]⟩,Pv (i + 1),fun ys' H' p'=>⟨ys.length - (i + 1),by omega,rfl,hlt2,p'⟩,fun x H' y=>?_⟩;obtain ⟨t,v,u,rfl,ht,rfl,y,y2⟩:=y;exact hs i v u t zs _ (y xs q) (y2 ys q2) ht p
 ·have e:i=ys.length:=by omega
  subst e;exact .inl ⟨⟨xs,ys,q,q2,.inr (yh _)⟩,hd zs H p⟩
end
section
variable {X:Cx} {K:yg}
end
section
variable {X:Cx} {K:yg} {e st:Expr} {te:TE} {ts:TO} {p2 pos:Pos}
end
mutual
inductive Dat (H:Hp):V->PyData->Prop
 | non:Dat H .non .none
 | bl (b:Bool):Dat H (.bl b) (.bool b)
 | int (i:Int):Dat H (.int i) (.int i)
 | str (x:Str):Dat H (.str x) (.str x)
 | lst {a:Addr} {xs:List V} {ds:List PyData}:H a=some (.lst xs)->DatS H xs ds->Dat H (.ref a) (.list ds)
 | tup {a:Addr} {xs:List V} {ds:List PyData}:H a=some (.tup xs)->DatS H xs ds->Dat H (.ref a) (.tuple ds)
 | dnil {a:Addr}:H a=some (.dK [])->Dat H (.ref a) (.dict [])
inductive DatS (H:Hp):List V->List PyData->Prop
 | nil:DatS H [] []
 | cons {v:V} {vs:List V} {d:PyData} {ds:List PyData}:Dat H v d->DatS H vs ds->DatS H (v::vs) (d::ds)
end
structure Shw (d:PyData) (n m:Nat):Prop where
 s:d.showable=true
 l:d.leavesShort 13=true
 b:d.bulk<=n
 p:d.depth<=m
structure ShwS (ds:List PyData) (n m:Nat):Prop where
 s:PyData.showableAll ds=true
 l:PyData.leavesShortAll 13 ds=true
 b:PyData.bulkAll ds<=n
 p:PyData.depthAll ds<=m
section
variable {X:Cx} {K:yg} {pins:List (Addr×Obj)} {σ:List (Option V)} {H:Hp} {s:Shared}
end
section
variable {X:Cx} {tg elt iter:Expr} {ifs:List Expr} {scope sc1:Scope} {pos:Pos} {N N1:List Str} {nl:Nat} {ixs:List Nat} {wi:TI} {g:TG} {tc:TT} {te:TE} {C1:Addr} {s1:Shared} {H1:Hp} {ex1:List Addr}
end
section
variable {X:Cx} {K:yg}
theorem qb8 {td ty:TE} {σ:St} {H:Hp} {Q:VK} (h:td σ H fun x H1=>∃ a,x=.ref a/\IsD H1 a/\ty σ H1 fun y H2=>∃ o,DGet H2 a y o/\Q (o.getD .non) H2):qek td ty σ H Q:=h
end
noncomputable abbrev Cx.soft (X:Cx):Cx:={ X with calm:=false }
structure RoomW (k:Nat) (A:Around):Prop where
 dp:A.depth + 3 * k + 5 < recursionLimit
 un:A.units + 16 * k + 200 < cLine
 gd:A.guards=some []
theorem RoomW.deeper {k:Nat} {A:Around} (r:RoomW (k + 1) A) (env:Env):RoomW k (A.deeper env):=
 ⟨by have:=r.dp;show A.depth + 1 + 3 * k + 5 < _;omega,by have:=r.un;show A.units + 3 + 16 * k + 200 < _;omega,r.gd⟩
theorem Room.soft {j k:Nat} {A:Around} {h:Option Value} (r:Room k A) (l:j<=k):RoomW j (A.mark h):=⟨by have:=r.dp;show A.depth + 3 * j + 5 < _;omega,by have:=r.un;show A.units + 16 * j + 200 < _;omega,r.gd⟩
structure FnOkW (P:Program) (w:World) (K:yg) (mg:Str->Option Value) (base:Heap) (k:Nat) (f:Addr) (fd:FuncData) (ps:List Str) (sp:Sp):Prop where
 len:∀ vs H Q E,sp vs H Q E->vs.length=ps.length
 run:∀ (A:Around) (outer:List Env) (s:Shared) (H:Hp) (args:Args) (us:List Value) (vs:List V) (Q:VK) (E:XK),RoomW k A->Env0 P w K mg base A outer s H->BindsTo s fd args (ps.zip us)->Vals vs us->sp vs H Q E ->
  codeAny (model P w) A (.call (.ref f) args) (CR CX0 outer P w H s Q E) s
structure DefOkW (P:Program) (w:World) (K:yg) (mg:Str->Option Value) (base:Heap) (k:Nat) (x:Str) (ps:List Str) (sp:Sp):Prop where
 ex:∃ f fd,FnOkW P w K mg base k f fd ps sp/\mg x=some (.ref f)/\PySem.W.keepIn K (.ref f)=true/\Binds K fd ps []
section
variable {X:Cx} {k:Nat} {f C:Addr} {fd:FuncData} {ps:List Str} {sp:Sp} {x m:Str} {p pos apos:Pos} {e o:Expr} {es:List Expr} {ta:TE} {t:TA}
end
section
variable {P:Program} {w:World} {K:yg} {mg:Str->Option Value} {base:Heap}
end
theorem Inv.laidM {X:Cx} {pins:List (Addr×Obj)} {σ:St} {H H':Hp} {s:Shared} {h':Heap} {t':Nat} (I:Inv X pins σ H s) (k:∀ b u,s.heap.get? b=some u->h'.get? b=some u)
  (old:∀ b,b < s.heap.objs.size->H' b=H b) (new:∀ b u,s.heap.objs.size<=b->H' b=some u->ObjOk X.prog X.w H' h' b u):Inv X pins σ H' { s with heap:=h',toks:=t' }:=by
 have lt:∀ b u,H b=some u->b < s.heap.objs.size:=fun b u e=>ky fun z=>by rw [I.hok.fresh z] at e;cases e
 have up:∀ b u,H b=some u->H' b=some u:=fun b u e=>(old b (lt b u e)).trans e;refine I.step (g':=s.gens) (d':=s.drawn) (ch:=[]) (fun b hb=>by simp at hb) (fun b o _ _ _ e _=>k b o e) (fun b o _ _ _ e _=>⟨o.slots,k b o e⟩) (fun b o _ e n=>(old b (yH e)).trans n)
  (fun b o _ e=>⟨o,k b o e⟩) (fun b xs e=>up b _ e) (fun b _ _ e=>up b _ e) (fun b ps e=>⟨#[],by rw [up b _ e];simp⟩) (fun m ⟨o,es,ep,ho,r⟩=>⟨o,es,ep,k _ o ho,r⟩) (fun b u e=>?_) I.bare
 by_cases hb:s.heap.objs.size<=b
 ·exact new b u hb e
 ·rw [old b (ky hb)] at e;exact (I.hok b u e).stay (fun c v _ q=>k c v q) (fun c q=>up c _ q) fun c xs q=>up c _ q
section
variable {prog:Program} {w:World} {A:Around} {E:Value->Shared->Prop} {s:Shared}
theorem alive_ {a:Addr} {Q:Option Obj->Shared->Prop} (h:Q (s.heap.get? a) s):wpAny (model prog w) A (loadIfAlive a) Q E s:=fun Γ p _=>by
 show Sem.wp _ _ (.loadIfAlive a .pure) _ _ _ _;rw [Sem.wp_loadIfAlive];simpa using h
noncomputable abbrev qeX (h:Heap) (z TI TO:Addr) (f0:Value) (b1:Bool):Prop:=h.get? z=some { cls:=.type "zip",dict:=none,data:=.fields #[f0,.bool b1,.bool false,.ref TI,.ref TO],slots:=#[] }
theorem qfm {z TI TO T:Addr} {b1:Bool} {oT:Obj} {Q:Bool->Shared->Prop} (hz:qeX s.heap z TI TO (rawInt T) b1) (hT:s.heap.get? T=some oT)
  (hQ:∀ h',qeX h' z TI TO (rawInt T) true->Heap.SameBut z s.heap h'->Q false { s with heap:=h' }):wpAny (model prog w) A (Builtin.SmallTypes.ownedTupleIsFree (.ref z)) Q E s:=by
 unfold Builtin.SmallTypes.ownedTupleIsFree;refine yr (YZ hz rfl (x:=rawInt T) rfl ?_);show wpAny _ _ (loadIfAlive T>>=_) _ _ _;refine yr (alive_ ?_);rw [hT];show wpAny _ _ (field (.ref z) 1>>=_) _ _ _;refine yr (YZ hz rfl (x:=.bool b1) rfl ?_)
 cases b1 with
 | true=>exact yu (hQ _ hz ⟨rfl,fun _ _=>rfl⟩)
 | false =>
  show wpAny _ _ (setField (.ref z) 1 (.bool true)>>=_) _ _ _;exact yr (wpAny_setField_rec hz (by simp) fun h1 e1 k1=>yu (hQ h1 e1 k1))
theorem znx {z TI TO i1 i2 a b T:Addr} {b1:Bool} {oT:Obj} {k1 k2:Nat} {xs ys:Array Value} {x y:Value} {Q:Value->Shared->Prop} (D:ZipApart z TI TO i1 i2 a b)
  (hz:qeX s.heap z TI TO (rawInt T) b1) (hT:s.heap.get? T=some oT) (hTI:IsPair s.heap TI (.ref i1) (.ref i2))
  (h1:s.heap.IsListIter i1 a k1) (h2:s.heap.IsListIter i2 b k2) (hl1:s.heap.IsList a xs) (hl2:s.heap.IsList b ys) (hx:xs[k1]?=some x) (hy:ys[k2]?=some y)
  (hQ:∀ h',qeX h' z TI TO (rawInt T) true->h'.IsListIter i1 a (k1 + 1)->h'.IsListIter i2 b (k2 + 1)->IsPair h' s.heap.objs.size x y->h'.objs.size=s.heap.objs.size + 1 ->
   (∀ c o,c≠z->c≠i1->c≠i2->s.heap.get? c=some o->h'.get? c=some o)->Q (.ref s.heap.objs.size) { s with heap:=h' }) :
  wpAny (model prog w) A (Builtin.«zip.__next__» ⟨[.ref z],[]⟩) (fun fin s'=>∃ v,fin=.done (.ret v)/\Q v s') E s:=by
 show wpAny _ _ (field (.ref z) 2>>=_) _ _ _;refine yr <| YZ hz rfl (x:=.bool false) rfl ?_;show wpAny _ _ (field (.ref z) 3>>=_) _ _ _;refine yr <| YZ hz rfl (x:=.ref TI) rfl ?_;refine yr <| wpAny_seqItems hTI rfl ?_;show wpAny _ _ (Builtin.SmallTypes.ownedTupleIsFree _>>=_) _ _ _;refine yr <| qfm hz hT fun g1 z1 s1=>?_;simp only [YA,xx];refine yr ?_;rw [<- Array.forIn_toList];simp only [kI,kM];refine yr (yr (Yg ?_));show wpAny _ _ (Builtin.SmallTypes.nextOf (.ref i1)>>=_) _ _ _;refine yr <| Xp (h1.extBut s1.extBut D.i1z) (hl1.extBut s1.extBut D.l1z) hx fun g2 p2 s2=>yu (yu ?_);refine yr (yr (Yg ?_));show wpAny _ _ (Builtin.SmallTypes.nextOf (.ref i2)>>=_) _ _ _;refine yr <| Xp ((h2.extBut s1.extBut D.i2z).extBut s2.extBut D.i12.symm) ((hl2.extBut s1.extBut D.l2z).extBut s2.extBut D.l2i1) hy fun g3 p3 s3=>yu (yu (yu ?_));refine yr (wpAny_newTuple (yu ⟨_,rfl,?_⟩) (by show 2<=sizeLine;decide));have es:g3.objs.size=s.heap.objs.size:=by rw [s3.1,s2.1,s1.1]
 have kp:∀ c o,c≠z->c≠i1->c≠i2->s.heap.get? c=some o->g3.get? c=some o:=fun c o n1 n2 n3 e=>s3.extBut _ _ n3 (s2.extBut _ _ n2 (s1.extBut _ _ n1 e));rw [show (Value.ref g3.objs.size)=.ref s.heap.objs.size by rw [es]];refine hQ _ (yv _ (s3.extBut _ _ D.i2z.symm (s2.extBut _ _ D.i1z.symm z1))) ((p2.extBut s3.extBut D.i12).at fun o e=>yv _ e) (p3.at fun o e=>yv _ e) ?_ (by rw [xi,es]) fun c o n1 n2 n3 e=>yv _ (kp c o n1 n2 n3 e);rw [<- es];exact yO _ rfl
theorem zne {z TI TO i1 i2 a b T:Addr} {b1:Bool} {oT:Obj} {k1 k2:Nat} {xs ys:Array Value} {Q:Fin->Shared->Prop} (hh:A.handled=none) (D:ZipApart z TI TO i1 i2 a b)
  (hz:qeX s.heap z TI TO (rawInt T) b1) (hT:s.heap.get? T=some oT) (hTI:IsPair s.heap TI (.ref i1) (.ref i2))
  (h1:s.heap.IsListIter i1 a k1) (h2:s.heap.IsListIter i2 b k2) (hl1:s.heap.IsList a xs) (hl2:s.heap.IsList b ys) (hend:xs[k1]?=none\/ys[k2]?=none)
  (hE:∀ h' e,(∀ c o,c≠z->c≠i1->c≠i2->s.heap.get? c=some o->h'.get? c=some o)->(∃ o,h'.get? e=some o/\o.cls=.type "StopIteration")->E (.ref e) { s with heap:=h' }) :
  wpAny (model prog w) A (Builtin.«zip.__next__» ⟨[.ref z],[]⟩) Q E s:=by
 show wpAny _ _ (field (.ref z) 2>>=_) _ _ _;refine yr <| YZ hz rfl (x:=.bool false) rfl ?_;show wpAny _ _ (field (.ref z) 3>>=_) _ _ _;refine yr <| YZ hz rfl (x:=.ref TI) rfl ?_;refine yr <| wpAny_seqItems hTI rfl ?_;show wpAny _ _ (Builtin.SmallTypes.ownedTupleIsFree _>>=_) _ _ _;refine yr <| qfm hz hT fun g1 z1 s1=>?_;simp only [YA,xx];refine yr ?_;rw [<- Array.forIn_toList];simp only [kI,kM];refine yr (yr (Yg ?_));show wpAny _ _ (Builtin.SmallTypes.nextOf (.ref i1)>>=_) _ _ _
 cases hx:xs[k1]? with
 | none=>exact yr <| wpAny_nextOf_list_end hh (h1.extBut s1.extBut D.i1z) (hl1.extBut s1.extBut D.l1z) hx fun g2 e s2 he=>hE g2 e (fun c o n1 n2 _ q=>s2 _ _ n2 (s1.extBut _ _ n1 q)) he
 | some x =>
  have hy:ys[k2]?=none:=hend.elim (fun z=>by rw [hx] at z;cases z) id;refine yr <| Xp (h1.extBut s1.extBut D.i1z) (hl1.extBut s1.extBut D.l1z) hx fun g2 p2 s2=>yu (yu ?_);refine yr (yr (Yg ?_));show wpAny _ _ (Builtin.SmallTypes.nextOf (.ref i2)>>=_) _ _ _;exact yr <| wpAny_nextOf_list_end hh ((h2.extBut s1.extBut D.i2z).extBut s2.extBut D.i12.symm) ((hl2.extBut s1.extBut D.l2z).extBut s2.extBut D.l2i1) hy fun g3 e s3 he=>hE g3 e (fun c o n1 n2 n3 q=>s3 _ _ n3 (s2.extBut _ _ n2 (s1.extBut _ _ n1 q))) he
noncomputable def ZAt (z TI TO N:Nat) (h:Heap):Prop:=IsZip h z TI TO .none\/∃ T b1 o,N<=T/\qeX h z TI TO (rawInt (T:Nat)) b1/\h.get? T=some o
theorem ZAt.typ {z TI TO N:Nat} (h:ZAt z TI TO N s.heap):s.TypeIs (.ref z) "zip":=by
 rcases h with e | ⟨_,_,_,_,e,_⟩<;>exact ⟨_,e,rfl⟩
theorem znx_any {z TI TO i1 i2 a b N:Addr} {k1 k2:Nat} {xs ys:Array Value} {x y:Value} {Q:Option Value->Shared->Prop} (D:ZipApart z TI TO i1 i2 a b) (hN:N<=s.heap.objs.size)
  (hz:ZAt z TI TO N s.heap) (hTI:IsPair s.heap TI (.ref i1) (.ref i2)) (hTO:∃ u v,IsPair s.heap TO u v)
  (h1:s.heap.IsListIter i1 a k1) (h2:s.heap.IsListIter i2 b k2) (hl1:s.heap.IsList a xs) (hl2:s.heap.IsList b ys) (hx:xs[k1]?=some x) (hy:ys[k2]?=some y) (hlt:z < N/\i1 < N/\i2 < N)
  (hQ:∀ h',ZAt z TI TO N h'->(∃ u v,IsPair h' TO u v)->h'.IsListIter i1 a (k1 + 1)->h'.IsListIter i2 b (k2 + 1)->IsPair h' s.heap.objs.size x y->h'.objs.size=s.heap.objs.size + 1 ->
   (∀ c o,c≠z->c≠TO->c≠i1->c≠i2->s.heap.get? c=some o->h'.get? c=some o)->Q (some (.ref s.heap.objs.size)) { s with heap:=h' }) :
  wpAny (model prog w) A (pyNext (.ref z)) Q E s:=by
 obtain ⟨u,v,hTO⟩:=hTO;have typ:=hz.typ;rcases hz with hz | ⟨T,b1,o,hT,hz,ho⟩
 ·refine wpAny_pyNext_zip_item D hz hTI hTO h1 h2 hl1 hl2 hx hy fun g e1 e2 e3 e4 e5 e6 e7=>hQ g (.inr ⟨s.heap.objs.size,false,_,hN,e1,e5⟩) ⟨_,_,e2⟩ e3 e4 e5 e6 e7
 ·unfold pyNext;refine yr (km (xz (name:=Str.ofString "__next__") typ XH (xA XH typ F.entry_zip_next (znx D hz ho hTI h1 h2 hl1 hl2 hx hy fun g e1 e3 e4 e5 e6 e7=>yu ?_) (F.args_zip_next_1 _))));exact hQ g (.inr ⟨T,true,o,hT,e1,e7 _ _ (Yh (yj hlt.1 hT)) (Yh (yj hlt.2.1 hT)) (Yh (yj hlt.2.2 hT)) ho⟩) ⟨_,_,e7 _ _ D.TOz D.TOi1 D.TOi2 hTO⟩ e3 e4 e5 e6 fun c q n1 _ n2 n3 e=>e7 c q n1 n2 n3 e
theorem zne_any {z TI TO i1 i2 a b N:Addr} {k1 k2:Nat} {xs ys:Array Value} {Q:Option Value->Shared->Prop} (hh:A.handled=none) (D:ZipApart z TI TO i1 i2 a b)
  (hz:ZAt z TI TO N s.heap) (hTI:IsPair s.heap TI (.ref i1) (.ref i2)) (hTO:∃ u v,IsPair s.heap TO u v)
  (h1:s.heap.IsListIter i1 a k1) (h2:s.heap.IsListIter i2 b k2) (hl1:s.heap.IsList a xs) (hl2:s.heap.IsList b ys) (hend:xs[k1]?=none\/ys[k2]?=none)
  (hQ:∀ h',(∀ c o,c≠z->c≠TO->c≠i1->c≠i2->s.heap.get? c=some o->h'.get? c=some o)->Q none { s with heap:=h' }):wpAny (model prog w) A (pyNext (.ref z)) Q E s:=by
 obtain ⟨u,v,hTO⟩:=hTO;have typ:=hz.typ;rcases hz with hz | ⟨T,b1,o,hT,hz,ho⟩
 ·exact wpAny_pyNext_zip_end hh D hz hTI hTO h1 h2 hl1 hl2 hend hQ
 ·unfold pyNext;refine yr (km (xz (name:=Str.ofString "__next__") typ XH (xA XH typ F.entry_zip_next (zne hh D hz ho hTI h1 h2 hl1 hl2 hend fun g e k he=>?_) (F.args_zip_next_1 _))));obtain ⟨q,hq,hc⟩:=he;refine yr (wpAny_isInstance (T:="StopIteration") (b:=true) ⟨q,hq,hc⟩ isSubtype_stop ?_);exact yu (hQ _ fun c o n1 _ n2 n3 e=>k c o n1 n2 n3 e)
end
structure LZ (z TI TO i1 i2 a b S N:Nat) (xs ys:Array Value) (h0:Heap) (i:Nat) (acc:Array Value) (c:Nat) (h:Heap):Prop where
 zp:ZAt z TI TO N h
 ti:IsPair h TI (.ref i1) (.ref i2)
 tO:∃ u v,IsPair h TO u v
 j1:h.IsListIter i1 a i
 j2:h.IsListIter i2 b i
 la:h.IsList a xs
 lb:h.IsList b ys
 ls:h.get? S=some { cls:=.type "list",dict:=none,data:=.seq acc c,slots:=#[] }
 sz:N<=h.objs.size
 len:acc.size=i
 its:∀ (j:Nat) v,acc[j]?=some v->∃ t x y,v=.ref t/\N<=t/\IsPair h t x y/\xs[j]?=some x/\ys[j]?=some y
 nd:∀ (j k:Nat) v,acc[j]?=some v->acc[k]?=some v->j=k
 kp:∀ q o,q < N->q≠z->q≠TO->q≠i1->q≠i2->q≠S->h0.get? q=some o->h.get? q=some o
structure LE (z TO i1 i2 S N:Nat) (xs ys:Array Value) (h0:Heap) (n:Nat) (acc:Array Value) (c:Nat) (h:Heap):Prop where
 ls:h.get? S=some { cls:=.type "list",dict:=none,data:=.seq acc c,slots:=#[] }
 len:acc.size=n
 its:∀ (j:Nat) v,acc[j]?=some v->∃ t x y,v=.ref t/\N<=t/\IsPair h t x y/\xs[j]?=some x/\ys[j]?=some y
 nd:∀ (j k:Nat) v,acc[j]?=some v->acc[k]?=some v->j=k
 kp:∀ q o,q < N->q≠z->q≠TO->q≠i1->q≠i2->q≠S->h0.get? q=some o->h.get? q=some o
structure LA (z TI TO i1 i2 a b S N:Nat):Prop where
 D:ZipApart z TI TO i1 i2 a b
 lt:z < S/\TI < S/\TO < S/\i1 < S/\i2 < S/\a < S/\b < S
 S:S < N
theorem LZ.at {z TI TO i1 i2 a b S N:Nat} {xs ys:Array Value} {h0 h h':Heap} {i c c':Nat} {acc acc':Array Value} (L:LA z TI TO i1 i2 a b S N) (x:LZ z TI TO i1 i2 a b S N xs ys h0 i acc c h)
  (k:Heap.SameBut S h h') (ls:h'.get? S=some { cls:=.type "list",dict:=none,data:=.seq acc' c',slots:=#[] }) (len:acc'.size=i) (its:∀ (j:Nat) v,acc'[j]?=some v->∃ t x y,v=.ref t/\N<=t/\IsPair h t x y/\xs[j]?=some x/\ys[j]?=some y) (nd:∀ (j k:Nat) v,acc'[j]?=some v->acc'[k]?=some v->j=k):LZ z TI TO i1 i2 a b S N xs ys h0 i acc' c' h':=by
 obtain ⟨l1,l2,l3,l4,l5,l6,l7⟩:=L.lt;have hS:=L.S;have kk:∀ {q o},q≠S->h.get? q=some o->h'.get? q=some o:=fun n e=>k.extBut _ _ n e;refine ⟨?_,kk (yF l2) x.ti,?_,x.j1.at fun o e=>kk (yF l4) e,x.j2.at fun o e=>kk (yF l5) e,x.la.extBut k.extBut (yF l6),x.lb.extBut k.extBut (yF l7),ls,by rw [k.1];exact x.sz,len,fun j v e=>?_,nd,fun q o a1 a2 a3 a4 a5 a6 e=>kk a6 (x.kp q o a1 a2 a3 a4 a5 a6 e)⟩
 ·rcases x.zp with e | ⟨T,b1,o,hT,e,eo⟩
  ·exact .inl (kk (yF l1) e)
  ·exact .inr ⟨T,b1,o,hT,kk (yF l1) e,kk (Yh (yj hS hT)) eo⟩
 ·obtain ⟨u,v,e⟩:=x.tO;exact ⟨u,v,kk (yF l3) e⟩
 ·obtain ⟨t,u,v,e1,e2,e3,e4⟩:=its j v e;exact ⟨t,u,v,e1,e2,kk (Yh (yj hS e2)) e3,e4⟩
section
variable {prog:Program} {w:World} {A:Around} {R:Result->Shared->Prop} {z TI TO i1 i2 a b S N:Nat} {xs ys:Array Value} {h0:Heap}
theorem zloop (hh:A.handled=none) (L:LA z TI TO i1 i2 a b S N) (hn:min xs.size ys.size<=2 ^ 24) (res:Value):∀ (k i:Nat) (s:Shared) (acc:Array Value) (c:Nat),min xs.size ys.size - i=k->i<=min xs.size ys.size->LZ z TI TO i1 i2 a b S N xs ys h0 i acc c s.heap ->
  (∀ h' acc' c',LE z TO i1 i2 S N xs ys h0 (min xs.size ys.size) acc' c' h'->R (.ok (.ret res)) { s with heap:=h' })->codeAny (model prog w) A (.builtin "list.extend.loop" ⟨[.ref S,.ref z,res],[]⟩) R s:=by
 have hS:=L.S;obtain ⟨l1,l2,l3,l4,l5,l6,l7⟩:=L.lt;have ap:∀ {t q:Nat},N<=t->q < S->t≠q:=fun h1 h2=>by omega
 intro k
 induction k with
 | zero =>
  intro i s acc c hk hi x hR;refine codeAny_builtin F.entry_extend_loop ?_;rw [Around.under_plainId x0 _];show wpAny _ A.in1 (pyNext _>>=_) _ _ s
  have he:xs[i]?=none\/ys[i]?=none:=by
   rcases kQ xs.size ys.size with q | q
   ·exact .inl (xI (by omega))
   ·exact .inr (xI (by omega))
  refine yr (zne_any hh L.D x.zp x.ti x.tO x.j1 x.j2 x.la x.lb he fun h' kk=>yu (hR h' acc c ⟨?_,by rw [x.len];omega,fun j v e=>?_,x.nd,fun q o a1 a2 a3 a4 a5 a6 e=>kk q o a2 a3 a4 a5 (x.kp q o a1 a2 a3 a4 a5 a6 e)⟩))
  ·exact kk S _ (Yh l1) (Yh l3) (Yh l4) (Yh l5) x.ls
  ·obtain ⟨t,u,v,e1,e2,e3,e4⟩:=x.its j v e;exact ⟨t,u,v,e1,e2,kk t _ (ap e2 l1) (ap e2 l3) (ap e2 l4) (ap e2 l5) e3,e4⟩
 | succ k ih =>
  intro i s acc c hk hi x hR;refine codeAny_builtin F.entry_extend_loop ?_;rw [Around.under_plainId x0 _];show wpAny _ A.in1 (pyNext _>>=_) _ _ s;obtain ⟨u,hu⟩:∃ u,xs[i]?=some u:=⟨_,xZ (by omega)⟩;obtain ⟨v,hv⟩:∃ v,ys[i]?=some v:=⟨_,xZ (by omega)⟩;refine yr (znx_any L.D x.sz x.zp x.ti x.tO x.j1 x.j2 x.la x.lb hu hv ⟨kE l1 hS,kE l4 hS,kE l5 hS⟩ fun h1 z1 to1 e1 e2 eP esz kk=>?_);have hS1:=kk S _ (Yh l1) (Yh l3) (Yh l4) (Yh l5) x.ls;show wpAny _ A.in1 (updateSeq S (·.push (.ref s.heap.objs.size))>>=_) _ _ _;have hlen:=x.len;have hN:=x.sz
  have nin:∀ j:Nat,acc[j]?≠some (.ref s.heap.objs.size):=fun j e=>by
   obtain ⟨t,u',w',q1,q2,q3,_⟩:=x.its j _ e;cases q1;exact absurd (yH q3) (Yt _)
  have ndp:∀ (j k:Nat) v',(acc.push (.ref s.heap.objs.size))[j]?=some v'->(acc.push (.ref s.heap.objs.size))[k]?=some v'->j=k:=fun j k v' e1 e2=>by
   rw [Array.getElem?_push] at e1 e2;split at e1<;>split at e2
   ·rename_i a1 a2;rw [a1,a2]
   ·cases e1;exact absurd e2 (nin k)
   ·cases e2;exact absurd e1 (nin j)
   ·exact x.nd j k v' e1 e2
  obtain ⟨c',upS⟩:∃ c',(h1.update S (Obj.mapSeq (·.push (.ref s.heap.objs.size)))).get? S=some { cls:=.type "list",dict:=none,data:=.seq (acc.push (.ref s.heap.objs.size)) c',slots:=#[] }:=⟨_,YT (Obj.mapSeq (·.push (.ref s.heap.objs.size))) hS1 rfl⟩;refine yr (XI hS1 rfl (yu ⟨plainId_quiet x0 _,ih (i + 1) _ (acc.push (.ref s.heap.objs.size)) c' (by omega) (by omega) ?_ hR⟩) ?_ ?_)
  ·have sb:Heap.SameBut S h1 (h1.update S (Obj.mapSeq (·.push (.ref s.heap.objs.size)))):=xu ..;have k2:∀ {q o},q≠S->h1.get? q=some o->(h1.update S (Obj.mapSeq (·.push (.ref s.heap.objs.size)))).get? q=some o:=fun n e=>sb.extBut _ _ n e;refine ⟨?_,k2 (yF l2) (kk _ _ L.D.TIz L.D.TITO L.D.TIi1 L.D.TIi2 x.ti),?_,e1.at fun o e=>k2 (yF l4) e,e2.at fun o e=>k2 (yF l5) e,?_,?_,upS,by rw [sb.1,esz];omega,by rw [Array.size_push,hlen],fun j v' e=>?_,ndp,fun q o a1 a2 a3 a4 a5 a6 e=>k2 a6 (kk q o a2 a3 a4 a5 (x.kp q o a1 a2 a3 a4 a5 a6 e))⟩
   ·rcases z1 with e | ⟨T,b1,o,hT,e,eo⟩
    ·exact .inl (k2 (yF l1) e)
    ·exact .inr ⟨T,b1,o,hT,k2 (yF l1) e,k2 (Yh (yj hS hT)) eo⟩
   ·obtain ⟨u',v',e⟩:=to1;exact ⟨u',v',k2 (yF l3) e⟩
   ·obtain ⟨o,e,d⟩:=x.la;exact ⟨o,k2 (yF l6) (kk _ _ L.D.l1z L.D.l1TO L.D.l1i1 L.D.l1i2 e),d⟩
   ·obtain ⟨o,e,d⟩:=x.lb;exact ⟨o,k2 (yF l7) (kk _ _ L.D.l2z L.D.l2TO L.D.l2i1 L.D.l2i2 e),d⟩
   ·rw [Array.getElem?_push] at e;split at e
    ·rename_i ej
     cases e;rw [ej,hlen];exact ⟨_,u,v,rfl,hN,k2 (Yh (yj hS hN)) eP,hu,hv⟩
    ·obtain ⟨t,u',w',q1,q2,q3,q4⟩:=x.its j v' e;exact ⟨t,u',w',q1,q2,k2 (Yh (yj hS q2)) (kk t _ (ap q2 l1) (ap q2 l3) (ap q2 l4) (ap q2 l5) q3),q4⟩
  ·rw [hlen,Yx];omega
  ·show (acc.push _).size<=sizeLine + 1;rw [Array.size_push,hlen,Yx];omega
theorem zip_len0:typeLookup (.type "zip") "__len__"=pure none:=by rw [typeLookup_type,builtinLookup_eq_fast];kernel_rfl
theorem zip_hint0:typeLookup (.type "zip") "__length_hint__"=pure none:=by rw [typeLookup_type,builtinLookup_eq_fast];kernel_rfl
theorem zext {s:Shared} {c0:Nat} (hh:A.handled=none) (L:LA z TI TO i1 i2 a b S N) (hn:min xs.size ys.size<=2 ^ 24) (res:Value) (hz:IsZip s.heap z TI TO .none) (x:LZ z TI TO i1 i2 a b S N xs ys h0 0 #[] c0 s.heap)
  (hR:∀ h' acc' c',LE z TO i1 i2 S N xs ys h0 (min xs.size ys.size) acc' c' h'->R (.ok (.ret res)) { s with heap:=h' }) :
  wpAny (model prog w) A.in1 (Builtin.List.listExtendWith (.ref S) (.ref z) res) (fun fin s'=>match fin with | .done f=>R (.ok f) s' | .again c'=>c'.quiet=true/\codeAny (model prog w) A c' R s') (fun e s'=>R (.error e) s') s:=by
 obtain ⟨l1,_⟩:=L.lt;have typ:s.TypeIs (.ref z) "zip":=⟨_,hz,rfl⟩;unfold Builtin.List.listExtendWith;refine yr <| wpAny_typeOf typ ?_;have q1:Builtin.List.listSameRef (.ref S) (.ref z)=false:=by simp [Builtin.List.listSameRef,Yh l1]
 have q2:(Value.type "zip"==.type "list")=false/\(Value.type "zip"==.type "tuple")=false:=by decide
 simp only [q1,q2.1,q2.2,kl,YA,xx];refine yr <| kx hz <| yr <| Yg ?_;unfold Builtin.List.listLengthHint;refine yr <| wpAny_specialOf typ zip_len0 ?_;show wpAny _ _ (specialOf (Value.ref z) (Str.ofString "__length_hint__")>>=_) _ _ _;refine yr <| wpAny_specialOf typ zip_hint0 <| yu ?_;show wpAny _ _ (rule "list.extend.makes-room">>=fun _=>Builtin.List.listTouch (.ref S)>>=fun _=>again (.builtin "list.extend.loop" ⟨[.ref S,.ref z,res],[]⟩)) _ _ _;refine yr <| wpAny_rule <| yr ?_;show wpAny _ _ (updateSeq S (·.push .none)>>=fun _=>updateSeq S (·.pop)) _ _ _;refine yr <| XI x.ls rfl ?_;have e2:=YT (Obj.mapSeq (·.push Value.none)) x.ls rfl;refine XI (hz:=by seq_fits) e2 rfl ?_;have e3:=YT (Obj.mapSeq (·.pop)) e2 rfl
 have sb:Heap.SameBut S s.heap ((s.heap.update S (Obj.mapSeq (·.push Value.none))).update S (Obj.mapSeq (·.pop))):=by
  have k1:Heap.SameBut S s.heap (s.heap.update S (Obj.mapSeq (·.push Value.none))):=xu ..;have k2:Heap.SameBut S (s.heap.update S (Obj.mapSeq (·.push Value.none))) ((s.heap.update S (Obj.mapSeq (·.push Value.none))).update S (Obj.mapSeq (·.pop))):=xu ..;exact ⟨k2.1.trans k1.1,fun q n=>(k2.2 q n).trans (k1.2 q n)⟩
 exact yu ⟨plainId_quiet x0 _,zloop hh L hn res _ 0 _ #[] _ rfl (YC _) (x.at L sb e3 rfl (fun j v e=>by simp at e) fun j k v e=>by simp at e) hR⟩
theorem zinit {s:Shared} {c0:Nat} (hh:A.handled=none) (L:LA z TI TO i1 i2 a b S N) (hn:min xs.size ys.size<=2 ^ 24) (hz:IsZip s.heap z TI TO .none) (x:LZ z TI TO i1 i2 a b S N xs ys h0 0 #[] c0 s.heap)
  (hR:∀ h' acc' c',LE z TO i1 i2 S N xs ys h0 (min xs.size ys.size) acc' c' h'->R (.ok (.ret .none)) { s with heap:=h' }) :
  wpAny (model prog w) A.in1 (Builtin.«list.__init__» ⟨[.ref S,.ref z],[]⟩) (fun fin s'=>match fin with | .done f=>R (.ok f) s' | .again c'=>c'.quiet=true/\codeAny (model prog w) A c' R s') (fun e s'=>R (.error e) s') s:=by
 obtain ⟨l1,_⟩:=L.lt;show wpAny _ _ (do let old <- Builtin.List.listItems (.ref S);Builtin.List.listUpdate (.ref S) (fun _=>#[]);letGo old.toList.reverse;Builtin.List.listExtendWith (.ref S) (.ref z) .none) _ _ s;refine yr ?_;unfold Builtin.List.listItems;refine yr <| wpAny_seqItems x.ls rfl <| yu ?_;show wpAny _ _ (updateSeq S (fun _=>#[])>>=fun _=>letGo _>>=fun _=>Builtin.List.listExtendWith (.ref S) (.ref z) .none) _ _ s;refine yr <| XI x.ls rfl ?_;have e2:=YT (Obj.mapSeq (fun _=>(#[]:Array Value))) x.ls rfl;have sb:Heap.SameBut S s.heap (s.heap.update S (Obj.mapSeq (fun _=>(#[]:Array Value)))):=xu ..;refine yr <| wpAny_letGo ?_;exact zext hh L hn .none (sb.extBut _ _ (yF l1) hz) (x.at L sb e2 rfl (fun j v e=>by simp at e) fun j k v e=>by simp at e) hR
end
section
variable {prog:Program} {w:World} {A:Around} {E:Value->Shared->Prop} {s:Shared}
theorem call_list_zip {z TI TO i1 i2 a b:Nat} {xs ys:Array Value} {Q:Value->Shared->Prop} (hh:A.handled=none) (D:ZipApart z TI TO i1 i2 a b) (hn:min xs.size ys.size<=2 ^ 24) (hz:IsZip s.heap z TI TO .none) (hTI:IsPair s.heap TI (.ref i1) (.ref i2)) (hTO:∃ u v,IsPair s.heap TO u v)
  (h1:s.heap.IsListIter i1 a 0) (h2:s.heap.IsListIter i2 b 0) (hl1:s.heap.IsList a xs) (hl2:s.heap.IsList b ys)
  (hQ:∀ h' acc' c',LE z TO i1 i2 s.heap.objs.size (s.heap.objs.size + 1) xs ys s.heap (min xs.size ys.size) acc' c' h'->Q (.ref s.heap.objs.size) { s with heap:=h' }):wpAny (model prog w) A (call (.type "list") [.ref z]) Q E s:=by
 refine callType_codes (Q₁:=fun obj s₁=>obj=.ref s.heap.objs.size/\s₁={ s with heap:=s.heap.push { cls:=.type "list",data:=.seq #[] } }) F.called_list (F.typeCall_list_1 _) F.entry_list_init (code_list_new _ ⟨rfl,rfl⟩) fun obj s₁ h₁=>?_;obtain ⟨rfl,rfl⟩:=h₁;have hS:(s.heap.push { cls:=.type "list",data:=.seq #[] }).get? s.heap.objs.size=some { cls:=.type "list",data:=.seq #[] }:=yO _ rfl;have up:∀ {q o},s.heap.get? q=some o->(s.heap.push { cls:=.type "list",data:=.seq #[] }).get? q=some o:=fun e=>yv _ e;have lt:∀ {q o},s.heap.get? q=some o->q < s.heap.objs.size:=fun e=>yH e;obtain ⟨u,v,hTO⟩:=hTO
 have L:LA z TI TO i1 i2 a b s.heap.objs.size (s.heap.objs.size + 1):=by
  refine ⟨D,⟨lt hz,lt hTI,lt hTO,?_,?_,?_,?_⟩,Xu _⟩
  ·obtain ⟨_,e,_⟩:=h1;exact lt e
  ·obtain ⟨_,e,_⟩:=h2;exact lt e
  ·obtain ⟨_,e,_⟩:=hl1;exact lt e
  ·obtain ⟨_,e,_⟩:=hl2;exact lt e
 have x:LZ z TI TO i1 i2 a b s.heap.objs.size (s.heap.objs.size + 1) xs ys s.heap 0 #[] 0 (s.heap.push { cls:=.type "list",data:=.seq #[] }):=by
  refine ⟨.inl (up hz),up hTI,⟨u,v,up hTO⟩,h1.at fun o e=>up e,h2.at fun o e=>up e,?_,?_,hS,by rw [xi];exact yh _,rfl,fun j v e=>by simp at e,fun j k v e=>by simp at e,fun q o _ _ _ _ _ _ e=>up e⟩
  ·obtain ⟨o,e,d⟩:=hl1;exact ⟨o,up e,d⟩
  ·obtain ⟨o,e,d⟩:=hl2;exact ⟨o,up e,d⟩
 exact ⟨⟨_,hS,rfl⟩,F.args_list_init_2 _ _,zinit (A:=A.in1) hh L hn (up hz) x fun h' acc' c' hE=>⟨rfl,hQ h' acc' c' hE⟩⟩
end
structure Zl (H H':Hp) (l:Addr) (ts:List Addr) (xs ys:List V):Prop where
 sm:L2.Same H H'
 fl:H l=none
 ls:H' l=some (.lst (ts.map V.ref))
 len:ts.length=min xs.length ys.length
 tp:∀ (j:Nat) t,ts[j]?=some t->H t=none/\∃ x y,xs[j]?=some x/\ys[j]?=some y/\H' t=some (.tup [x,y])
theorem qfn (H:Hp):∀ (ts:List Addr) (xs ys:List V),ts.Nodup->ts.length<=xs.length->ts.length<=ys.length->∃ G:Hp,(∀ (j:Nat) t x y,ts[j]?=some t->xs[j]?=some x->ys[j]?=some y->G t=some (.tup [x,y]))/\∀ q,q∉ts->G q=H q
 | [],_,_,_,_,_=>⟨H,fun j t x y e=>by simp at e,fun _ _=>rfl⟩
 | t::ts,[],_,_,h,_=>by simp at h
 | t::ts,_::_,[],_,_,h=>by simp at h
 | t::ts,x::xs,y::ys,nd,h1,h2=>by
  obtain ⟨n1,n2⟩:=yo.mp nd;obtain ⟨G,g1,g2⟩:=qfn H ts xs ys n2 (by simpa using h1) (by simpa using h2);refine ⟨upd G t (.tup [x,y]),fun j t' x' y' e1 e2 e3=>?_,fun q hq=>?_⟩
  ·cases j with
   | zero=>simp at e1 e2 e3;subst e1 e2 e3;exact qb
   | succ j =>
    have e1':ts[j]?=some t':=by simpa using e1
    rw [qe fun z=>n1 (by rw [<- z];exact ye e1')];exact g1 j t' x' y' e1' (by simpa using e2) (by simpa using e3)
  ·rw [qe fun z=>hq (by rw [z];exact yL)];exact g2 q fun z=>hq (yA _ z)
noncomputable def refN:Value->Nat
 | .ref a=>a
 | _=>0
noncomputable def tLZ (K:yg) (ta:TA):TE:=fun σ H Q=>ta σ H fun vs H1=>∃ a b xs ys,vs=[.ref a,.ref b]/\SqL K H1 a xs/\SqL K H1 b ys/\xs.length<=1000/\∀ l ts H',Zl H1 H' l ts xs ys->Q (.ref l) H'
theorem vLZ {K:yg} {ta:TA} {σ:St} {H:Hp} {Q:VK} (h:ta σ H fun vs H1=>∃ a b xs ys,vs=[.ref a,.ref b]/\SqL K H1 a xs/\SqL K H1 b ys/\xs.length<=1000/\∀ l ts H',Zl H1 H' l ts xs ys->Q (.ref l) H'):tLZ K ta σ H Q:=h
theorem qcx {X:Cx} {K:yg} {a b:Expr} {ta:TA} {p p2 pos pos2:Pos} (hK:X.K=K) (hc:X.calm=true) (hg:Gl X "list") (hg2:Gl X "zip") (hm:X.mg "list"=none) (hm2:X.mg "zip"=none) (ha:PA X [a,b] ta) (hs:starEach [a,b] X.env=[(false,eval a X.env),(false,eval b X.env)]:=by rfl) (hs2:starEach [b] X.env=[(false,eval b X.env)]:=by rfl)
  (he:starEach [.Call (.Name "zip" p2) [a,b] [] pos2] X.env=[(false,eval (.Call (.Name "zip" p2) [a,b] [] pos2) X.env)]:=by rfl):PE X (.Call (.Name "list" p) [.Call (.Name "zip" p2) [a,b] [] pos2] [] pos) (tLZ K ta):=by
 subst hK;intro pins s σ H Q I h;refine Call_ (zw I hg hm xN (Yi (T:="list") ?_ he rfl));rw [he];show wpAny _ _ (spliced ((false,eval (.Call (.Name "zip" p2) [a,b] [] pos2) X.env)::[])) _ _ s;refine Xf ?_;refine Call_ (zw I hg2 hm2 qcV (Yi (thn (ha pos2 pins s σ H _ I h) fun us s1 ⟨vs,H1,I1,r1,q1⟩=>?_) (by rw [hs,hs2]) (by rw [hs2];rfl)));obtain ⟨a,b,xs,ys,e,hq,hq2,hx,q⟩:=q1;subst e
 cases r1 with
 | cons r rr =>
  cases rr with
  | cons r2 rr =>
   cases rr;cases r;cases r2;obtain ⟨its,rv,pl,_⟩:=I1.list hq;obtain ⟨its2,rv2,pl2,_⟩:=I1.list hq2;have lta:a < s1.heap.objs.size:=by obtain ⟨_,e,_⟩:=pl.isList;exact yH e
   have ltb:b < s1.heap.objs.size:=by obtain ⟨_,e,_⟩:=pl2.isList;exact yH e
   have l1:=rv.length;have l2:=rv2.length;refine call_zip_2 pl.isList pl2.isList fun h1 hz hTI hTO hi1 hi2 hsz hk=>Xl ?_;have la:h1.IsList a its.toArray:=by obtain ⟨o,e,d⟩:=pl.isList;exact ⟨o,hk _ _ e,d⟩
   have lb:h1.IsList b its2.toArray:=by obtain ⟨o,e,d⟩:=pl2.isList;exact ⟨o,hk _ _ e,d⟩
   refine call_list_zip (I1.ok.hd hc) (PySem.W.ktu_apart _ _ _ lta ltb) (by simp only [yw];omega) hz hTI ⟨_,_,hTO⟩ hi1 hi2 la lb fun h2 acc c L=>?_;have L:LE (s1.heap.objs.size + 4) (s1.heap.objs.size + 3) s1.heap.objs.size (s1.heap.objs.size + 1) h1.objs.size (h1.objs.size + 1) its.toArray its2.toArray h1 (min its.toArray.size its2.toArray.size) acc c h2:=L;have hln:acc.size=min xs.length ys.length:=by rw [L.len,l1,l2,yw,yw]
   obtain ⟨ts,hts⟩:∃ ts,ts=acc.toList.map refN:=⟨_,rfl⟩;have tlen:ts.length=min xs.length ys.length:=by rw [hts,ya,Y4,hln]
   have tj:∀ (j:Nat) t,ts[j]?=some t->acc[j]?=some (.ref t)/\h1.objs.size + 1<=t/\∃ x y,xs[j]?=some x/\ys[j]?=some y/\∃ u v,RelV x u/\RelV y v/\IsPair h2 t u v:=fun j t e=>by
    rw [hts,yd,xO] at e;obtain ⟨v,ev,et⟩:=yn.mp e;obtain ⟨t',u1,u2,q1,q2,q3,q4,q5⟩:=L.its j v ev;subst q1;have et':t'=t:=et;subst et';have hj:j < acc.size:=(Array.getElem?_eq_some_iff.mp ev).1;obtain ⟨x,hx'⟩:∃ x,xs[j]?=some x:=⟨_,yb (by omega)⟩;obtain ⟨y,hy'⟩:∃ y,ys[j]?=some y:=⟨_,yb (by omega)⟩;obtain ⟨a1,ea1,ra1⟩:=rv.get hx';obtain ⟨a2,ea2,ra2⟩:=rv2.get hy';have b1:a1=u1:=by rw [List.getElem?_toArray,ea1] at q4;cases q4;rfl
    have b2:a2=u2:=by rw [List.getElem?_toArray,ea2] at q5;cases q5;rfl
    subst b1 b2;exact ⟨ev,q2,x,y,hx',hy',a1,a2,ra1,ra2,q3⟩
   have nd:ts.Nodup:=by
    refine YS.mpr fun i j hi hj hij e=>?_;have e1:=(tj i ts[i] (yb hi)).1;have e2:=(tj j ts[j] (yb hj)).1;rw [e] at e1;exact absurd (L.nd i j _ e1 e2) (yF hij)
   have mem:∀ t∈ts,h1.objs.size + 1<=t:=fun t ht=>by
    obtain ⟨j,e⟩:=xP.mp ht;exact (tj j t e).2.1
   obtain ⟨G,g1,g2⟩:=qfn H1 ts xs ys nd (by omega) (by omega)
   have old:∀ q,q < s1.heap.objs.size->upd G h1.objs.size (.lst (ts.map V.ref)) q=H1 q:=fun q hq=>by
    rw [qe (yF (by omega))];exact g2 q fun z=>by have:=mem q z;omega
   have tl:∀ t∈ts,t≠h1.objs.size:=fun t ht=>by have:=mem t ht;exact Yh this
   refine ⟨.ref _,_,I1.laidM (t':=s1.toks) (H':=upd G h1.objs.size (.lst (ts.map V.ref))) (fun b u e=>?_) old fun b u hb e=>?_,rfl,q _ ts _ ⟨fun b o e=>?_,I1.hok.fresh (by show (s1.heap.objs.size:Nat)<=h1.objs.size;omega),qb,tlen,fun j t e=>?_⟩⟩
   ·have lb:∀ m:Nat,s1.heap.objs.size<=m->b < m:=fun m hm=>yj (yH e) hm;exact L.kp b u (lb _ (by omega)) (yF (lb _ (by omega))) (yF (lb _ (by omega))) (yF (lb _ (by omega))) (yF (lb _ (by omega))) (yF (lb _ (by omega))) (hk b u e)
   ·by_cases hl:b=h1.objs.size
    ·subst hl;rw [qb] at e;cases e;refine ⟨by rw [ya,tlen,Yx];omega,acc.toList,c,zd (by rw [ya,tlen];exact hln.symm) fun j y u e1 e2=>?_,by rw [Array.toArray_toList];exact L.ls⟩;rw [yd] at e1;obtain ⟨t,et,ey⟩:=yn.mp e1;subst ey;rw [xO,(tj j t et).1] at e2;cases e2;rfl
    ·rw [qe hl] at e;by_cases hm:b∈ts
     ·obtain ⟨j,ej⟩:=xP.mp hm;obtain ⟨_,_,x,y,ex,ey,u1,u2,r1,r2,ep⟩:=tj j b ej;rw [g1 j b x y ej ex ey] at e;cases e;exact ⟨by show 2<=sizeLine;decide,[u1,u2],.cons r1 (.cons r2 .nil),⟨_,ep,rfl,_,rfl⟩⟩
     ·rw [g2 b hm,I1.hok.fresh hb] at e;cases e
   ·rw [old b (ky fun z=>by rw [I1.hok.fresh z] at e;cases e)];exact e
   ·obtain ⟨_,e2,x,y,ex,ey,_⟩:=tj j t e;refine ⟨I1.hok.fresh (by omega),x,y,ex,ey,?_⟩;rw [qe (tl t (ye e))];exact g1 j t x y e ex ey
section
variable {X:Cx}
end
end L2
namespace L2
open PySem PySem.Spec PySem.W PyProof.Rows
variable {h:Heap} {n:Nat} {p:Array Nat} {v:Value} {vs:List Value} {α:Type}
noncomputable def KOk {α:Type} (n:Nat) (P:α->Prop):KasT α->Prop
 | .ret a=>P a
 | .ask i j k=>i < n/\j < n/\∀ b,KOk n P (k b)
theorem KOk.bind {β:Type} {P:α->Prop} {R:β->Prop} {f:α->KasT β}:∀ {t:KasT α},KOk n P t->(∀ a,P a->KOk n R (f a))->KOk n R (t.bind f)
 | .ret a,h,g=>g a h
 | .ask i j k,h,g=>⟨h.1,h.2.1,fun b=>KOk.bind (h.2.2 b) g⟩
theorem KOk.wp {P:α->Prop} {cmp:Nat->Nat->(Bool->Shared->Prop)->Shared->Prop} {Q:α->Shared->Prop} {s:Shared} (hc:∀ i j C,i < n->j < n->(∀ b,C b s)->cmp i j C s) (hq:∀ a,P a->Q a s):∀ {t:KasT α},KOk n P t->t.kasWp cmp Q s
 | .ret a,h=>hq a h
 | .ask i j k,h=>hc i j _ h.1 h.2.1 fun b=>KOk.wp hc hq (h.2.2 b)
noncomputable def PmA (n:Nat) (p:Array Nat):Prop:=p.toList.Perm (List.range n)
theorem PmA.of {q:Array Nat} (h:PmA n p) (e:q.Perm p):PmA n q:=(Array.perm_iff_toList_perm.mp e).trans h
theorem PmA.at_ (h:PmA n p) (h0:0 < n) (i:Nat):p.getD i 0 < n:=by
 by_cases hi:i < p.size
 ·have hm:p.getD i 0∈p.toList:=by
   have:p.getD i 0=p[i]:=by simp [Array.getD,hi]
   rw [this];simp
  exact YI.mp (h.mem_iff.mp hm)
 ·have:p.getD i 0=0:=by simp [Array.getD,hi]
  omega
section
variable {n:Nat} (h0:0 < n)
include h0
theorem qcy (h:PmA n p):∀ f k,KOk n (fun _=>True) (kas_asc p f k)
 | 0,k=>trivial
 | f + 1,k=>by
  refine ⟨h.at_ h0 _,h.at_ h0 _,fun b=>?_⟩
  (try dsimp only)
  split
  ·trivial
  ·exact qcy h f (k + 1)
theorem qaE:∀ f {p:Array Nat} (_:PmA n p) k q,KOk n (fun r=>PmA n r.1) (kas_desc f p k q)
 | 0,p,h,k,q=>h
 | f + 1,p,h,k,q=>by
  refine ⟨h.at_ h0 _,h.at_ h0 _,fun b=>?_⟩
  (try dsimp only)
  split
  ·split
   ·exact qaE f (h.of (kc _ _ _ _)) _ _
   ·exact qaE f h _ _
  ·refine ⟨h.at_ h0 _,h.at_ h0 _,fun b=>?_⟩
   (try dsimp only)
   split
   ·exact h
   ·exact qaE f h _ _
theorem qcX (h:PmA n p) (k m:Nat):KOk n (fun r=>PmA n r.2) (kas_tail3 k m p):=(qcy h0 (h.of (kc _ _ _ _)) _ _).bind fun _ _=>h.of (kc _ _ _ _)
theorem qcY (h:PmA n p) (k m:Nat):KOk n (fun r=>PmA n r.2) (kas_descPart k m p):=(qaE h0 _ h _ _).bind fun r hr=>by
 split
 ·exact qcX h0 (hr.of (kc _ _ _ _)) _ _
 ·exact qcX h0 hr _ _
theorem kok_count (h:PmA n p) (m:Nat):KOk n (fun r=>PmA n r.2) (kas_count m p):=(qcy h0 h _ _).bind fun k _=>by
 split
 ·exact h
 ·split
  ·refine ⟨h.at_ h0 _,h.at_ h0 _,fun b=>?_⟩
   (try dsimp only)
   split
   ·exact h
   ·exact qcY h0 (h.of (kc _ _ _ _)) _ _
  ·exact qcY h0 h _ _
theorem qa1 (h:PmA n p) (k:Nat):∀ f l r,KOk n (fun _=>True) (kas_place p k f l r)
 | 0,l,r=>trivial
 | f + 1,l,r=>by
  unfold kas_place;split
  ·trivial
  ·refine ⟨h.at_ h0 _,h.at_ h0 _,fun b=>?_⟩
   (try dsimp only)
   split
   ·exact qa1 h k f _ _
   ·exact qa1 h k f _ _
theorem qdE:∀ f {p:Array Nat} (_:PmA n p) k,KOk n (PmA n) (kas_bin f p k)
 | 0,p,h,k=>h
 | f + 1,p,h,k=>(qa1 h0 h k _ _ _).bind fun l _=>qdE f (h.of (bubble_perm _ _ _)) _
theorem kok_sort:KOk n (PmA n) (kas_sort n):=(kok_count h0 (p:=(List.range n).toArray) (List.Perm.refl _) n).bind fun r hr=>by
 split
 ·exact qdE h0 _ hr _
 ·exact hr
end
noncomputable def Tw (h:Heap) (v:Value):Prop:=∃ (t:Addr) (o:Obj) (x y:Int) (tx ty:Tok) (k:Nat),v=.ref t/\h.get? t=some o/\o.cls=.type "tuple"/\o.data=.seq #[.int x tx,.int y ty] k
theorem Tw.keep {h':Heap} (w:Tw h v) (k:∀ b o,(∀ x n,o≠seqObj "list" x n)->h.get? b=some o->h'.get? b=some o):Tw h' v:=by
 obtain ⟨t,o,x,y,tx,ty,m,e,g,c,d⟩:=w;exact ⟨t,o,x,y,tx,ty,m,e,k _ _ (fun z n q=>by rw [q] at c;injection c with c;exact absurd c (by decide)) g,c,d⟩
section
variable {prog:Program} {w:World} {A:Around} {E:Value->Shared->Prop} {s:Shared}
theorem tw_lt {u:Value} {Q:Bool->Shared->Prop} (hu:Tw s.heap u) (hv:Tw s.heap v) (h:∀ b,Q b s):wpAny (model prog w) A (keyLt' (tuples' true) u v) Q E s:=by
 obtain ⟨t,o,x,y,tx,ty,k,rfl,g,c,d⟩:=hu;obtain ⟨t',o',x',y',tx',ty',k',rfl,g',c',d'⟩:=hv;refine kat_lt g d g' d' ?_;refine kat_cons (kq (kat_go (fun _=>kat_yes ?_) fun _=>kat_no ?_))
 ·refine kat_cons (kq (kat_go (fun _=>kat_yes (kat_nil (h _))) fun _=>kat_no ?_));exact kat_one _ _ (lt_int (show W.BoolBack Q (.bool _) s from h _))
 ·exact oneLt_int (h _)
theorem qdF:∀ {vs:List Value},(∀ v∈vs,Tw h v)->∃ fs,KatTups h vs fs/\fs.length=vs.length/\∀ f∈fs,∃ x t,f=.int x t
 | [],_=>⟨[],.nil,rfl,fun _ z=>by cases z⟩
 | v::vs,hv=>by
  obtain ⟨fs,h1,h2,h3⟩:=qdF fun v hm=>hv v (yA _ hm);obtain ⟨t,o,x,y,tx,ty,k,rfl,g,c,d⟩:=hv v yL;refine ⟨.int x tx::fs,.cons g c d rfl h1,by rw [yC,yC,h2],fun f hf=>?_⟩;rcases yx.mp hf with rfl | hf
  ·exact ⟨x,tx,rfl⟩
  ·exact h3 f hf
theorem pick_perm (h:PmA vs.length p):(p.toList.map fun i=>vs.getD i Value.none).Perm vs:=by
 have e:(List.range vs.length).map (fun i=>vs.getD i Value.none)=vs:=by
  apply List.ext_getElem
  ·simp
  ·intro i h1 h2;simp [h2]
 have:=h.map fun i=>vs.getD i Value.none
 rwa [e] at this
theorem sort_tups {a:Addr} {P:PySem.Fin->Shared->Prop} (ho:s.heap.get? a=some (seqObj "list" vs.toArray n)) (hv:∀ v∈vs,Tw s.heap v) (h64:vs.length < 64)
  (h:∀ out:Array Value,out.toList.Perm vs->P (.done (.ret .none)) { s with heap:=sortedHeap s.heap a vs out }) :
  wpAny (model prog w) A (Builtin.«list.sort» ⟨[.ref a],[]⟩) P E s:=by
 rw [list_sort_plain];have ha:a < s.heap.objs.size:=yH ho;refine yr (listItems_at ho rfl ?_);refine yr (listUpdate_at ho rfl ?_);obtain ⟨e1,ho1⟩:∃ e1,(s.heap.update a (Obj.mapSeq fun _=>#[])).get? a=some (seqObj "list" #[] e1):=⟨_,get?_update_seq ho (fun _=>#[])⟩;refine yr (seqEpoch_at ho1 rfl ?_);refine yr (wpAny_newTuple ?_);refine yr (wpAny_newList ?_);refine Yg ?_
 have ho6:(((s.heap.update a (Obj.mapSeq fun _=>#[])).push (seqObj "tuple" vs.toArray 0)).push (seqObj "list" #[] 0)).get? a=some (seqObj "list" #[] e1):=by
  rw [Xq _ _ _ (by rw [size_push',kz];exact yF (X7 ha)),Xq _ _ _ (by rw [kz];exact yF ha)];exact ho1
 have s1:=xu s.heap a (Obj.mapSeq fun _=>(#[]:Array Value));have hv6:∀ v∈vs,Tw (((s.heap.update a (Obj.mapSeq fun _=>#[])).push (seqObj "tuple" vs.toArray 0)).push (seqObj "list" #[] 0)) v:=fun v hm=>(hv v hm).keep fun b o nl e=>yv _ (yv _ ((s1.2 b (fun z=>by rw [z,ho] at e;exact nl _ _ (ym e).symm)).trans e));show wpAny (model prog w) A _ P E { s with heap:=((s.heap.update a (Obj.mapSeq fun _=>#[])).push (seqObj "tuple" vs.toArray 0)).push (seqObj "list" #[] 0) };dsimp only;have hsz:vs.toArray.size=vs.length:=by simp
 have fin:=h;by_cases h2:vs.toArray.size < 2
 ·rw [yE h2,yE h2];refine yr (yu ?_);rw [StateT.run_pure];refine yr (yu ?_);dsimp only;refine yr (seqEpoch_at ho6 rfl ?_);refine yr (listUpdate_at ho6 rfl ?_ (hsz2:=by rw [Array.size_map];show (pairsOf vs).size<=_;rw [pairsOf_size,Yx];omega));simp only [bne_self_eq_false,YA,xx];refine yu (fin _ ?_);show ((pairsOf vs).map (·.2)).toList.Perm vs
  have:((pairsOf vs).map (·.2)).toList=vs:=by
   rw [Array.toList_map];show (vs.toArray.zip vs.toArray).toList.map Prod.snd=vs;simp [List.map_snd_zip]
  rw [this]
 ·rw [yy h2,yy h2];have hn:2<=vs.length:=by omega
  obtain ⟨fs,k1,k2,k3⟩:=qdF hv6;refine yr (kat_kind (T:=.type "int") k1 (by omega) (fun f hf=>?_) (by decide +kernel) ?_)
  ·obtain ⟨x,t,rfl⟩:=k3 f hf;exact Looks.of_pure rfl
  refine yr (YQ (kat_run (ks:=vs) (Q:=fun st' s'=>s'={ s with heap:=((s.heap.update a (Obj.mapSeq fun _=>#[])).push (seqObj "tuple" vs.toArray 0)).push (seqObj "list" #[] 0) }/\∃ p:Array Nat,PmA vs.length p/\arrOf st'=p.map (kas_item (vs.toArray.zip vs.toArray))/\failedOf st'=none)
   (G:=fun p s'=>s'={ s with heap:=((s.heap.update a (Obj.mapSeq fun _=>#[])).push (seqObj "tuple" vs.toArray 0)).push (seqObj "list" #[] 0) }/\PmA vs.length p) rfl hn h64 (fun p' st' s' a1 a2 a3 a4=>⟨a4.1,p',a4.2,a2,a3⟩) ((kok_sort (by omega)).wp (fun i j C hi hj hC=>?_) fun p hp=>⟨rfl,hp⟩)) ?_ fun _ _ e=>e)
  ·have gi:∀ i,i < vs.length->vs.getD i Value.none∈vs:=fun i hi=>by
    have:vs.getD i Value.none=vs[i]:=by simp [hi]
    rw [this];exact YO hi
   exact tw_lt (hv6 _ (gi i hi)) (hv6 _ (gi j hj)) hC
  rintro ⟨⟨⟩,st'⟩ s' ⟨rfl,p,hp,har,hf⟩;dsimp only;have hout:=kat_snds rfl har;have hpl:p.toList.length=vs.length:=by rw [hp.length_eq,Yo]
  refine yr (seqEpoch_at ho6 rfl ?_);rw [hout];refine yr (listUpdate_at ho6 rfl ?_ (hsz2:=by rw [yw,ya,hpl,Yx];omega));rw [hf];simp only [bne_self_eq_false,YA,xx];exact yu (fin _ (pick_perm hp))
theorem sorted_tups {l:Addr} {Q:Value->Shared->Prop} (hl:s.heap.IsList l vs.toArray) (hv:∀ v∈vs,Tw s.heap v) (h64:vs.length < 64)
  (h:∀ out:Array Value,out.toList.Perm vs->Q (.ref (s.heap.objs.size + 1)) { s with heap:=sortedAll s.heap vs out }) :
  wpAny (model prog w) A (call (.builtin "sorted") [.ref l]) Q E s:=by
 refine Calls.call_function_entry kind_sorted plain_sorted entry_sorted (args_sorted1 _) ?_;unfold Builtin.«sorted»;refine yr (m:=checkCount "sorted" 1 1 _) (yu ?_);refine yr (collect_list hl ?_);refine yr (wpAny_newList ?_)
 have hsz:((s.heap.push (seqObj "list" #[] 0)).update s.heap.objs.size (Obj.mapSeq (·++vs.toArray))).objs.size=s.heap.objs.size + 1:=by
  rw [kz,size_push']
 have hoL:(((s.heap.push (seqObj "list" #[] 0)).update s.heap.objs.size (Obj.mapSeq (·++vs.toArray))).push (seqObj "list" vs.toArray 0)).get? (s.heap.objs.size + 1)=some (seqObj "list" vs.toArray 0):=by
  rw [<- hsz];exact yO _ rfl
 have hvL:∀ v∈vs,Tw (((s.heap.push (seqObj "list" #[] 0)).update s.heap.objs.size (Obj.mapSeq (·++vs.toArray))).push (seqObj "list" vs.toArray 0)) v:=fun v hm=>(hv v hm).keep fun b o _ e=>by
  have hlt:b < s.heap.objs.size:=yH e;rw [Xq _ _ _ (by rw [hsz];exact yF (X7 hlt)),XT _ _ _ _ (yF hlt),Xq _ _ _ (yF hlt)];exact e
 show wpAny _ _ _ _ _ { s with heap:=((s.heap.push (seqObj "list" #[] 0)).update s.heap.objs.size (Obj.mapSeq (·++vs.toArray))).push (seqObj "list" vs.toArray 0) };rw [hsz];refine yr (Yg (xA slot_list_sort ⟨_,hoL,rfl⟩ entry_list_sort (sort_tups hoL hvL h64 fun out ho=>⟨_,rfl,?_⟩) (args_list_sort _)));exact yu ⟨_,rfl,h out ho⟩
end
theorem qb9:∀ {ts:List Addr} {us:List Value},Vals (ts.map V.ref) us->us=ts.map Value.ref
 | [],_,.nil=>rfl
 | t::ts,_,.cons r h=>by
  have e:_=Value.ref t:=r;rw [e,qb9 h];rfl
theorem qca:∀ (ts:List Addr),Vals (ts.map V.ref) (ts.map Value.ref)
 | []=>.nil
 | t::ts=>.cons rfl (qca ts)
noncomputable def qea:Value->Addr
 | .ref a=>a
 | _=>0
theorem perm_refs {ts:List Addr} {out:List Value} (h:out.Perm (ts.map Value.ref)):∃ us:List Addr,us.Perm ts/\out=us.map Value.ref:=by
 refine ⟨out.map qea,?_,?_⟩
 ·have:=h.map qea;rw [kR] at this;have e:(qea ∘ Value.ref)=id:=by funext a;rfl
  rwa [e,List.map_id] at this
 ·rw [kR]
  have:out.map id=out.map (Value.ref ∘ qea):=List.map_congr_left fun v hv=>by
   obtain ⟨t,_,rfl⟩:=Yd.mp (h.mem_iff.mp hv);rfl
  rwa [List.map_id] at this
section
variable {X:Cx} {K:yg}
noncomputable def rSortT:List V->Hp->VK->Prop:=fun xs H Q=>∃ (p:Addr) (ts:List Addr),xs=[.ref p]/\H p=some (.lst (ts.map V.ref))/\ts.length < 64/\(∀ t∈ts,∃ x y:Int,H t=some (.tup [.int x,.int y]))/\∀ (l:Addr) (us:List Addr),H l=none->us.Perm ts->Q (.ref l) (upd H l (.lst (us.map V.ref)))
theorem k_sortT:zi X (.builtin "sorted") rSortT:=by
 intro pins s σ H xs us Q I r h;obtain ⟨p,ts,rfl,hp,h64,ht,q⟩:=h;obtain ⟨u,rfl,ru⟩:=qaR r;cases ru;obtain ⟨its,rv,pl,hz⟩:=I.list (SqL.of hp);have e0:=qb9 rv;subst e0;refine sorted_tups (vs:=ts.map Value.ref) pl.isList (fun v hv=>?_) (by rw [ya];exact h64) fun out hout=>?_
 ·obtain ⟨t,htm,rfl⟩:=Yd.mp hv;obtain ⟨x,y,e⟩:=ht t htm;obtain ⟨_,its,rt,o,g,c,n,d⟩:=I.hok _ _ e
  cases rt with
  | cons r1 rt =>
   cases rt with
   | cons r2 rt =>
    cases rt;obtain ⟨tx,rfl⟩:=r1;obtain ⟨ty,rfl⟩:=r2;exact ⟨t,o,x,y,tx,ty,n,rfl,g,c,d⟩
 ·obtain ⟨us,hu,eo⟩:=perm_refs hout;obtain ⟨e,he⟩:=PyProof.Rows.sortedAll_at s.heap (ts.map Value.ref) out;have hf:H (s.heap.objs.size + 1)=none:=I.hok.fresh (xW _)
  have new:ObjOk X.prog X.w (upd H (s.heap.objs.size + 1) (.lst (us.map V.ref))) (PyProof.Rows.sortedAll s.heap (ts.map Value.ref) out) (s.heap.objs.size + 1) (.lst (us.map V.ref)):=by
   refine ⟨?_,out.toList,e,by rw [eo];exact qca us,?_⟩
   ·rw [ya,hu.length_eq];exact yZ (qi (by omega))
   ·rw [he]
  exact ⟨.ref (s.heap.objs.size + 1),_,I.laid (t':=s.toks) (fun b o e=>PyProof.Rows.sortedAll_old e) (xW _) new,rfl,q _ us hf hu⟩
end
noncomputable def rDClear:V->List V->Hp->VK->Prop:=fun x vs H Q=>∃ (d:Addr) (kvs:List (Key×V)),x=.ref d/\vs=[]/\H d=some (.dK kvs)/\Q .non (upd H d (.dK []))
theorem mtR_dclear {X:Cx}:MtR X "dict.clear" rDClear:=by
 intro pins s σ H x xs v us Q I r rv h;obtain ⟨d,kvs,rfl,rfl,e,q⟩:=h;cases r;cases rv;exact d_clear I e fun s' I'=>⟨.non,_,I',rfl,q⟩
end L2
namespace K52
open PySem L2 PyProof.Rows
variable {A:Str->Str->Prop} {E:XK} {G H H' H0 H1 H2 J J':Hp} {K:W.Frag} {Pd:Str->Prop} {S S':FS} {a b c s u v y z:Str} {ab:Str×Str} {cw dx l ld ln p x:Addr} {d lo ol:V} {dn l' l1 l2 m1 r rs rv rw rz ss wt:List Str} {g:Str->Option Str} {i j m n:Nat} {kps qs tps:List (Str×Str)} {kvs:List (List Key×V)} {nb:Nat->List Nat} {ns:List Nat} {o:HO} {q q' q0:Nat×Nat} {ts us:List Addr} {xs ys:List V} {α β:Type} {σ:L2.St}
theorem Sr (H:Hp):L2.Same H H:=L2.Same.refl H
theorem za {k:Nat} {A:Around} (hr:Room k A):A.units + 100 < cLine:=by have:=hr.un;omega
theorem hmR {k:Nat} {A:Around} (hr:Room k A) (h:j<=k:=by decide):Room j A:=hr.mono h
local macro_rules | `(tactic| walk_at "w")=>`(tactic| first
 | with_reducible refine vSeq ?_ | with_reducible refine vAsg ?_ | with_reducible refine vAsgS ?_ | with_reducible refine vIfS ?_ | with_reducible refine vRet ?_ | with_reducible refine vNext ?_ | with_reducible refine vC ?_
 | ((with_reducible refine' vVar ?hv ?_);(case hv=>rfl)) | with_reducible refine vOp ?_ | with_reducible refine vChain ?_ | with_reducible refine vNil ?_ | with_reducible refine vCons ?_ | with_reducible refine vCB ?_ | with_reducible refine vCall ?_
 | with_reducible refine vLst ?_ | with_reducible refine vTup ?_ | with_reducible refine vTest ?_ | with_reducible refine vB ?_ | with_reducible refine vNot ?_ | with_reducible refine vAnd ?_ | with_reducible refine vOr ?_
 | with_reducible refine vAndV ?_ | with_reducible refine vOrV ?_ | with_reducible refine vNotV ?_ | with_reducible refine vYes ?_ | with_reducible refine vLeI ?_ | with_reducible refine vLeS ?_ | with_reducible refine vIsB ?_ | with_reducible refine vAddI ?_ | with_reducible refine vSl ?_ | with_reducible refine vNoPart ?_ | with_reducible refine vPart ?_ | with_reducible refine vExI ?_ | with_reducible refine vBM ?_ | with_reducible refine vBM0 ?_ | with_reducible refine vComp ?_ | with_reducible refine vFor ?_ | with_reducible refine vRng1 ?_ | with_reducible refine vAny ?_ | with_reducible refine vGN ?_ | with_reducible refine vI0 ?_ | with_reducible refine vEqI ?_ | with_reducible refine vEqB ?_ | with_reducible refine vEx ?_ | with_reducible refine vDrop ?_ | with_reducible refine vRetN ?_ | with_reducible refine vFldU ?_ | with_reducible refine vSFldU ?_ | with_reducible refine vXMake ?_ | with_reducible refine vMake ?_ | with_reducible refine vMeth ?_ | with_reducible refine vVinit ?_ | with_reducible refine vCallS ?_ | with_reducible refine vRaise ?_ | with_reducible refine vMethS ?_ | with_reducible refine vMakeS ?_ | with_reducible refine vUn ?_ | with_reducible refine vIf ?_ | with_reducible refine vRev ?_ | with_reducible refine vEnum ?_ | with_reducible refine vDGet2 ?_ | with_reducible refine vStep ?_)
local macro_rules | `(tactic| walk_at "v")=>`(tactic| repeat walk_at "w")
local macro_rules | `(tactic| ext)=>`(tactic| walk_at "v")
noncomputable def fAtt:List Str:=["board","partners","rows","parents","bases","rings","waiting","longer"]
structure Txt (K:W.Frag) (mg:Str->Option Value) (cc:Nat->Addr) (cw:Addr):Prop where
 b_len:mg "len"=none
 b_int:mg "int"=none
 b_enumerate:mg "enumerate"=none
 b_all:mg "all"=none
 b_max:mg "max"=none
 b_min:mg "min"=none
 b_isinstance:mg "isinstance"=none
 b_bool:mg "bool"=none
 b_str:mg "str"=none
 b_range:mg "range"=none
 b_list:mg "list"=none
 b_tuple:mg "tuple"=none
 g_LONGEST_NAME:∃ tk,mg "LONGEST_NAME"=some (.int 6 tk)
 g_MOST_PLACES:∃ tk,mg "MOST_PLACES"=some (.int 14 tk)
 g_MOST_TIES:∃ tk,mg "MOST_TIES"=some (.int 30 tk)
 wcl:Cls K cw
 wn:NoAttr K cw "numbers"
 wo:NoAttr K cw "order"
 wr:NoAttr K cw "near"
 m_Web:mg "Web"=some (.ref cw)
 m_Forest:mg "Forest"=some (.ref (cc 9))
 fcl:Cls K (cc 9)
 fa:∀ a∈fAtt,NoAttr K (cc 9) a
 b_zip:mg "zip"=none
 b_sorted:mg "sorted"=none
 b_dict:mg "dict"=none
theorem ur:FnScope ["thing"] ["thing"] (qh zA):=fS
theorem uu:FnScope ["bits","number"] ["bits","number"] (qh qao):=fS
theorem uk:FnScope ["numbers","thing"] ["numbers","thing"] (qh zH):=fS
theorem KA:FnScope ["numbers","thing","both"] ["numbers","thing"] (qh jr):=fS
theorem qL (a:L2.Same H H1) (hl:H1 l=none):L2.Same H (upd H1 l o):=fun c u e=>by
 have q:=a c u e;rw [qe (qj q hl)];exact q
theorem qaa (a:L2.Same H H1) (hl:H l=none):L2.Same H (upd H1 l o):=fun c u e=>by
 rw [qe (qj e hl)];exact a c u e
noncomputable def sg (c:Nat):Bool:=if (!decide (([c]:List Nat) < ("a":Str).cps.toList))=true then !decide (("z":Str).cps.toList < [c]) else false
noncomputable def zu (x:Str):Bool:=if 1<=x.length/\x.length<=6 then x.cps.toList.all sg else false
theorem nameS_at {x:Str} (h:zu x=true):1<=x.length/\x.length<=6/\x.cps.toList.all sg=true:=by
 unfold zu at h;split at h
 ·rename_i z;exact ⟨z.1,z.2,h⟩
 ·cases h
structure All2 {α β:Type} (R:α->β->Prop) (l:List α) (m:List β):Prop where
 len:l.length=m.length
 at_:∀ (k:Nat) a b,l[k]?=some a->m[k]?=some b->R a b
theorem All2.nil {R:α->β->Prop}:All2 R [] []:=⟨rfl,fun k a b h=>by simp at h⟩
theorem All2.mono {R S:α->β->Prop} {l:List α} {m:List β} (h:All2 R l m) (f:∀ a b,R a b->S a b):All2 S l m:=⟨h.len,fun k a b x y=>f a b (h.at_ k a b x y)⟩
theorem All2.snoc {R:α->β->Prop} {l:List α} {m:List β} {x:α} {y:β} (h:All2 R l m) (r:R x y):All2 R (l++[x]) (m++[y]):=by
 refine ⟨by rw [yt,yt,h.len];rfl,fun k a b ha hb=>?_⟩;by_cases hk:k < l.length
 ·rw [yS hk] at ha;rw [yS (by rw [<- h.len];exact hk)] at hb;exact h.at_ k a b ha hb
 ·rw [yD (by omega)] at ha;rw [yD (by rw [<- h.len];omega)] at hb
  have h0:k - l.length=0:=by
   have:=(yc.mp ha).1;simp at this;omega
  rw [<- h.len] at hb;rw [h0] at ha hb;cases ha;cases hb;exact r
theorem All2.mem {R:α->β->Prop} {l:List α} {m:List β} (h:All2 R l m) {x:α} (hx:x∈l):∃ y∈m,R x y:=by
 obtain ⟨k,hk,e⟩:=xv hx;have hk':k < m.length:=by rw [<- h.len];exact hk
 exact ⟨m[k],YO hk',h.at_ k x m[k] (by rw [yb hk,e]) (yb hk')⟩
noncomputable def PL (H:Hp) (l:Addr) (ts:List Addr) (tps:List (Str×Str)):Prop:=H l=some (.lst (ts.map V.ref))/\All2 (fun t ab=>H t=some (.tup [.str ab.1,.str ab.2])) ts tps
theorem PL.same (h:PL H l ts tps) (s:L2.Same H H'):PL H' l ts tps:=⟨s _ _ h.1,h.2.mono fun _ _ z=>s _ _ z⟩
section
variable {P:Program} {w:World} {K:W.Frag} {mg:Str->Option Value} {base:Heap} {cc:Nat->Addr} {cw:Addr} {f:Addr} {fd:FuncData}
inductive spName (vs:List V) (H:Hp) (Q:VK) (E:XK):Prop|mk (x:Str) (_:vs=[.str x]) (_:zu x=true) (_:∀ H',L2.Same H H'->Q (.bl true) H')
theorem ok_name (F:Fun K "is_name" "is_name" zA f fd) (T:Txt K mg cc cw):FnOk P w K mg base CX0 1 f fd ["thing"] spName:=by
 refine F.ok ur fun _ _ _ _ H vs Q E hr h=>?_
 ·obtain ⟨x,rfl,hn,q⟩:=h;obtain ⟨n1,n2,n3⟩:=nameS_at hn;refine ⟨_,(qc (qP (PW.pt (qaA (jd (qX (qk (qam (K:=K) rfl) rfl T.b_isinstance YF (qa (pv 0) (qa (jB (v:=.ty "str") rfl T.b_str boot_str rfl) qd))))) (qab (jd (pt_chain qfw qfw qg (qk (zr (K:=K) rfl) rfl T.b_len Y0 (qa (pv 0) qd)) (qbu rfl T.g_LONGEST_NAME)))))) (qf (qm jW)) qv)
 (qf (qm (qk (qeM (K:=K) rfl rfl) rfl T.b_all boot_all (qa (jw (sc:=qh zA) (XN:=["thing"]) ["sign"] 1 [] rfl rfl rfl (by decide +kernel) rfl (by decide +kernel)
  (jg (K:=K) rfl (pv 0)) (fun _ _ _ _=>(qr (i:=0) (show (["sign"]:List Str).Nodup by decide +kernel) rfl (yJ rfl))) ji
  (fun _ _ _ _=>jN)
  (fun _ _ _ _=>(pe_chain qfw qfw qbI (pv 0) qbI))) qd))))),?_⟩
  ext;refine qbw (.inl (.str x)) rfl (zl K "str" (by simp) "str" (by simp)) ?_;ext;refine yq ?_;ext;refine vLenS (yi n2 (by decide)) ?_;ext;refine qU (fun h1=>?_) fun h1=>absurd (yI (by omega)) h1;ext;refine qU (fun h2=>by simp only [xV,Xj] at h2;omega) fun h2=>?_;ext;refine comp_str (fun i ys H'=>H'=H/\ys=((x.cps.toList.take i).map sg).map V.bl) ⟨rfl,by simp⟩ (fun i c ys H' hc hp=>?_) fun ys H' hp=>?_
  ·obtain ⟨rfl,rfl⟩:=hp;ext;refine qai ?_;ext
   have hl:(List.map V.bl (List.map sg (List.take i x.cps.toList))).length < sizeLine:=by
    rw [ya,ya,yR];exact qi (yi (Nat.min_le_right _ _) (by simpa [Str.length] using (show x.length<=1000 by omega)))
   have key:∀ b,b=sg c->(List.map V.bl (List.map sg (List.take i x.cps.toList)))++[V.bl b]=List.map V.bl (List.map sg (List.take (i + 1) x.cps.toList)):=by
    intro b hb;have e':x.cps.toList[i]?=some c:=by simpa using hc
    rw [hb,yQ,e'];simp
   refine qU (fun h3=>?_) fun h3=>⟨hl,rfl,key _ (by unfold sg;rw [yy h3])⟩;ext;exact ⟨hl,rfl,key _ (by unfold sg;rw [yE h3])⟩
  ·obtain ⟨rfl,rfl⟩:=hp;have ht:x.cps.toList.take x.cps.size=x.cps.toList:=by rw [<- Y4,yV]
   rw [ht];refine ⟨?_,fun l hl=>?_⟩
   ·rw [ya,ya];exact yZ (qi (by simpa [Str.length] using (show x.length<=1000 by omega)))
   ·ext;refine ⟨l,x.cps.toList.map sg,rfl,SqL.of qb,?_⟩;have z:=q _ (qL (Sr H') (o:=.lst ((x.cps.toList.map sg).map V.bl)) hl);rw [kF];rw [<- n3] at z;exact z
inductive spBit (vs:List V) (H:Hp) (Q:VK) (E:XK):Prop|mk (b n:Int) (_:vs=[.int b,.int n]) (_:0<=n) (_:Q (.bl (decide (Builtin.bitAnd (b / 2 ^ n.toNat) 1=1))) H)
theorem ok_bit (F:Fun K "has_bit" "has_bit" qao f fd):FnOk P w K mg base CX0 1 f fd ["bits","number"] spBit:=by
 refine F.ok uu fun _ _ _ _ H vs Q E hr h=>?_
 ·obtain ⟨b,n,rfl,hn,q⟩:=h;have hu:=za hr;refine ⟨_,(qf (qm (jC (zX (K:=K) rfl hu) (qC qdi (qC qdh (pv 0) (pv 1)) qg) qg (qD _)))),?_⟩;ext;refine vI hn ?_;ext;refine .inl (.inl (.inl ⟨rfl,rfl,?_⟩));exact q
noncomputable def qba:List Str->Nat->List (Key×V)
 | [],_=>[]
 | s::r,i=>(.inr s,.int i)::qba r (i + 1)
theorem qcb (y:Str):∀ (ss:List Str) (i:Nat),qba (ss++[y]) i=qba ss i++[(.inr y,.int (i + ss.length:Nat))]
 | [],i=>rfl
 | s::r,i=>by
  show (_::qba (r++[y]) (i + 1))=_::(qba r (i + 1)++_);rw [qcb y r (i + 1)];have:i + 1 + r.length=i + (s::r).length:=by simp;omega
  rw [this]
theorem zm:∀ (ss:List Str) (i:Nat),(qba ss i).length=ss.length
 | [],_=>rfl
 | _::r,i=>congrArg (· + 1) (zm r (i + 1))
theorem qa2:∀ {ss:List Str} {i:Nat},y∉ss->jJ (qba ss i) (.inr y:Key)=none
 | [],_,_=>rfl
 | s::r,i,h=>by
  have h1:¬ s=y:=fun e=>h (by rw [e];exact yL);show jJ ((.inr s,V.int i)::qba r (i + 1)) _=none;rw [qT (p:=((.inr s:Key),V.int i)) (fun e=>h1 (Y7 e))];exact qa2 fun m=>h (yA _ m)
theorem jX:∀ {ss:List Str} {i:Nat},y∈ss->∃ j,j < ss.length/\ss[j]?=some y/\jJ (qba ss i) (.inr y:Key)=some (.int (i + j:Nat))
 | [],_,h=>by cases h
 | s::r,i,h=>by
  by_cases e:s=y
  ·subst e;exact ⟨0,by simp,rfl,jf (p:=((.inr s:Key),V.int i)) rfl⟩
  ·rcases yx.mp h with z | z
   ·exact absurd z.symm e
   ·obtain ⟨j,h1,h2,h3⟩:=jX (i:=i + 1) z;refine ⟨j + 1,by simp;omega,by simpa using h2,?_⟩;show jJ ((.inr s,V.int i)::qba r (i + 1)) _=_;rw [qT (p:=((.inr s:Key),V.int i)) (fun e'=>e (Y7 e')),h3];have:i + 1 + j=i + (j + 1):=by omega
    rw [this]
theorem qa3 (y:Str) (ss:List Str) (i:Nat):(jJ (qba ss i) (.inr y:Key)).isSome=decide (y∈ss):=by
 by_cases h:y∈ss
 ·obtain ⟨j,_,_,e⟩:=jX (i:=i) h;rw [e,yI h];rfl
 ·rw [qa2 h,yl h];rfl
inductive spPlace (vs:List V) (H:Hp) (Q:VK) (E:XK):Prop|mk (d:Addr) (ss:List Str) (x:Str) (_:vs=[.ref d,.str x]) (_:H d=some (.dK (qba ss 0))) (_:zu x=true) (_:x∈ss) (_:∀ H',L2.Same H H'->Q (.bl true) H')
theorem ok_place (F:Fun K "is_place" "is_place" zH f fd) (KN:DefOk P w K mg base CX0 1 "is_name" ["thing"] spName):FnOk P w K mg base CX0 2 f fd ["numbers","thing"] spPlace:=by
 refine F.ok uk fun _ _ _ _ H vs Q E hr h=>?_
 ·obtain ⟨d,ss,x,rfl,hd,hn,hx,q⟩:=h;have hu:=za hr;refine ⟨_,(qf (qm (qbK (qt KN (hmR hr) qF (qa (pv 1) qd)) (qbJ (jC (zW (K:=K) rfl hu) (pv 1) (pv 0) (by with_unfolding_all rfl)))))),?_⟩;ext;refine ⟨x,rfl,hn,fun H1 s1=>?_⟩;ext;refine qai ?_;ext;refine .inr (.inl ⟨d,_,rfl,DGet.k (k:=Sum.inr x) (s1 d _ hd),?_⟩);rw [qa3,yI hx];exact q H1 s1
inductive spTwo (vs:List V) (H:Hp) (Q:VK) (E:XK):Prop|mk (d t:Addr) (ss:List Str) (a b:Str) (_:vs=[.ref d,.ref t]) (_:H d=some (.dK (qba ss 0))) (_:H t=some (.tup [.str a,.str b])) (_:zu a=true) (_:zu b=true) (_:a∈ss) (_:b∈ss) (_:a≠b) (_:∀ H',L2.Same H H'->Q (.bl true) H')
theorem ok_two (F:Fun K "are_two_places" "are_two_places" jr f fd) (T:Txt K mg cc cw) (KB:DefOk P w K mg base CX0 2 "is_place" ["numbers","thing"] spPlace):FnOk P w K mg base CX0 3 f fd ["numbers","thing"] spTwo:=by
 refine F.ok KA fun _ _ _ _ H vs Q E hr h=>?_
 ·obtain ⟨d,t,ss,a,b,rfl,hd,et,na,nb,ha,hb,hne,q⟩:=h;have hu:=za hr;refine ⟨_,(qc (qP (PW.pt (qaA (jd (qX (qk (qam (K:=K) rfl) rfl T.b_isinstance YF (qa (pv 1) (qa (jB (v:=.ty "tuple") rfl T.b_tuple Xx rfl) qd))))) (qab (qp (qaB (K:=K) rfl hu) (qk (zr (K:=K) rfl) rfl T.b_len Y0 (qa (pv 1) qd)) qg (qD _))))) (qf (qm jW)) qv)
 (qc (qo (i:=2) KA.nd rfl (yJ rfl) (qbK (qt KB (hmR hr) qF (qa (pv 0) (qa (qx (qy (K:=K) rfl hu) (pv 1) qg (fun _ _=>rfl)) qd))) (qbJ (qt KB (hmR hr) qF (qa (pv 0) (qa (qx (qy (K:=K) rfl hu) (pv 1) qg (fun _ _=>rfl)) qd))))))
 (qf (qm (qbK (pv 2) (qbJ (jC (qaB (K:=K) rfl hu) (qx (qy (K:=K) rfl hu) (pv 1) qg (fun _ _=>rfl)) (qx (qy (K:=K) rfl hu) (pv 1) qg (fun _ _=>rfl)) (qD _)))))))),?_⟩
  ext;refine qbw (.inl (.tup et)) rfl (zl K "tuple" (by simp) "tuple" (by simp)) ?_;ext;refine yq ?_;ext;refine qfg et ?_;ext;refine .inl ⟨rfl,rfl,?_⟩;ext;refine yq ?_;ext;refine .inl (qaY et rfl ?_);ext;refine ⟨d,ss,a,rfl,hd,na,ha,fun H1 s1=>?_⟩;ext;refine qai ?_;ext;refine .inl (qaY (s1 _ _ et) rfl ?_);ext;refine ⟨d,ss,b,rfl,s1 _ _ hd,nb,hb,fun H2 s2=>?_⟩;ext;refine qai ?_;ext;refine .inl (qaY (s2 _ _ (s1 _ _ et)) rfl ?_);ext;refine .inl (qaY (s2 _ _ (s1 _ _ et)) rfl ?_);refine .inl ⟨rfl,rfl,?_⟩;have z:=q H2 (s1.trans s2);have e:(if true=true then !eqV (V.str a) (V.str b) else eqV (V.str a) (V.str b))=true:=by simp [eqV,hne]
  rw [e];exact z
theorem Ky:FnScope ["names","numbers","name"] ["names"] (qh j4):=fS
theorem qbx (m j:Nat):decide (Builtin.bitAnd ((m:Int) / 2 ^ (j:Int).toNat) 1=1)=m.testBit j:=by
 rw [PyProof.Rows.bitAnd_m1,Nat.testBit_eq_decide_div_mod_eq];rw [Yb];have e:(m:Int) / 2 ^ j=((m / 2 ^ j:Nat):Int):=by rw [Int.natCast_ediv,Xc];rfl
 rw [e]
 congr 1
 apply propext;omega
theorem qdG (m j:Nat):Builtin.bitOr (m:Int) (1 * 2 ^ (j:Int).toNat)=((m ||| 2 ^ j:Nat):Int):=by
 have e:(1 * 2 ^ (j:Int).toNat:Int)=((2 ^ j:Nat):Int):=by rw [Yb,Int.one_mul,Xc];rfl
 rw [e];generalize 2 ^ j=k;have n1:Builtin.bitNot (m:Int)=-(m:Int) - 1:=rfl;have n2:Builtin.bitNot (k:Int)=-(k:Int) - 1:=rfl;unfold Builtin.bitOr Builtin.bitAnd;rw [n1,n2,yl (by omega),yl (by omega)];dsimp only;unfold Builtin.bitNot;have e1:(-(-(m:Int) - 1) - 1).toNat=m:=by omega
 have e2:(-(-(k:Int) - 1) - 1).toNat=k:=by omega
 rw [e1,e2];omega
noncomputable def But (x:Addr) (H H':Hp):Prop:=∀ b o,b≠x->H b=some o->H' b=some o
theorem But.refl (x:Addr) (H:Hp):But x H H:=fun _ _ _ e=>e
theorem But.same (a:But x H H1) (b:L2.Same H1 H2):But x H H2:=fun c o n e=>b c o (a c o n e)
theorem But.put (a:But x H H1):But x H (upd H1 x o):=fun c u n e=>by rw [qe n];exact a c u n e
theorem But.new (a:But x H H1) (hl:H1 l=none):But x H (upd H1 l o):=a.same (qL (Sr H1) hl)
theorem isi_lst {a q:Addr} {Q:VK} (h:H a=some (.lst xs)) (hq:H q=some (.tup [.ty "list",.ty "tuple"])) (k:Q (.bl true) H):qdA K [.ref a,.ref q] H Q:=
 ⟨_,q,_,_,[.type "list",.type "tuple"],true,rfl,.inl (.lst h),hq,rfl,rfl,k⟩
noncomputable def qgd (g:TG) (t:TS) (D:Ends) (σ:L2.St) (J:It) (H1:Hp):Prop:=∃ W:Nat->Nat->L2.St->Hp->Prop,(∃ m,W 0 m σ H1)/\∀ i m σ H,W i m σ H ->
 (J.stop i H/\D.nx σ H)\/(J.go i H/\∃ N:L2.St->Hp->Prop,(∀ σ' H',N σ' H'->∃ m',m' < m/\W (i + 1) m' σ' H')/\∀ x H',J.yld i H x H'->g x σ H' fun σ2 H2=>t { D with nx:=N,ct:=N,bk:=D.nx } σ2 H2)
noncomputable def LTu (H:Hp) (a:Addr) (xs:List V):Prop:=H a=some (.lst xs)\/H a=some (.tup xs)
theorem LTu.same {a:Addr} (h:LTu H a xs) (s:L2.Same H H'):LTu H' a xs:=h.imp (s _ _) (s _ _)
theorem qes {a q:Addr} {Q:VK} (h:LTu H a xs) (hq:H q=some (.tup [.ty "list",.ty "tuple"])) (k:Q (.bl true) H):qdA K [.ref a,.ref q] H Q:=
 h.elim (fun h=>isi_lst h hq k) fun h=>⟨_,q,_,_,[.type "list",.type "tuple"],true,rfl,.inl (.tup h),hq,rfl,rfl,k⟩
theorem qet {a:Addr} {Q:VK} (h:LTu H a xs) (q:Q (.int xs.length) H):qct K [.ref a] H Q:=h.elim (fun e=>qeL e q) fun e=>qfg e q
theorem qeu {a:Addr} {g:TG} {tb:TS} {D:Ends} (h:LTu H a xs) (s1:L2.Same H H1) (Pv:Nat->L2.St->Hp->Prop) (h0:Pv 0 σ H1) (hl:∀ i σ H',Pv i σ H'->L2.Same H H')
  (hs:∀ i x σ H,xs[i]?=some x->Pv i σ H->g x σ H fun σ2 H2=>tb { D with nx:=Pv (i + 1),ct:=Pv (i + 1),bk:=D.nx } σ2 H2) (hd:∀ σ H,Pv xs.length σ H->D.nx σ H) :
  ((∃ xs,SqL K H1 a xs)/\qgd g tb D σ (Itl K a) H1)\/((∃ xs,SqT K H1 a xs)/\qgd g tb D σ (Itt K a) H1):=by
 rcases h with e | e
 ·exact .inl ⟨⟨_,SqL.of (s1 _ _ e)⟩,jj (K:=K) Pv h0 (fun i σ H' _ hp=>SqL.of (hl i σ H' hp _ _ e)) hs hd⟩
 ·exact .inr ⟨⟨_,SqT.of (s1 _ _ e)⟩,for_tup (K:=K) Pv h0 (fun i σ H' _ hp=>SqT.of (hl i σ H' hp _ _ e)) hs hd⟩
inductive spNums (vs:List V) (H:Hp) (Q:VK) (E:XK):Prop|mk (a:Addr) (ss:List Str) (_:vs=[.ref a]) (_:LTu H a (ss.map V.str)) (_:ss.length<=14) (_:ss.Nodup) (_:(∀ s∈ss,zu s=true)) (_:∀ d H',L2.Same H H'->H d=none->H' d=some (.dK (qba ss 0))->Q (.ref d) H')
theorem ok_nums (F:Fun K "numbers_of" "numbers_of" j4 f fd) (T:Txt K mg cc cw) (KN:DefOk P w K mg base CX0 1 "is_name" ["thing"] spName) :
  FnOk P w K mg base CX0 4 f fd ["names"] spNums:=by
 refine F.ok Ky fun _ _ _ _ H vs Q E hr h=>?_
 ·obtain ⟨a,ss,rfl,ha,h14,hnd,hnm,q⟩:=h;have hu:=za hr;refine ⟨_,(qc (qP (jd (qX (qk (qdB (K:=K) rfl) rfl T.b_isinstance YF (qa (pv 0) (qa (ju (qa (jB (v:=.ty "list") rfl T.b_list xN rfl) (qa (jB (v:=.ty "tuple") rfl T.b_tuple Xx rfl) qd))) qd))))) (qf jv) qv)
 (qc (qP (qp qdb (qk (zr (K:=K) rfl) rfl T.b_len Y0 (qa (pv 0) qd)) (qbu rfl T.g_MOST_PLACES) (qD _)) (qf jv) qv)
 (qc (qo (i:=1) Ky.nd rfl (yJ rfl) j0)
 (qc (q9 yP rfl (jg (K:=K) rfl (pv 0)) (qr (i:=2) Ky.nd rfl (yJ rfl))
 (qc (qP (jd (qX (qt KN (hmR hr) qF (qa (pv 2) qd)))) (qf jv) qv)
 (qc (qP (qp (zW (K:=K) rfl hu) (pv 2) (pv 1) (by with_unfolding_all rfl)) (qf jv) qv)
 (qf (jG (qk (zr (K:=K) rfl) rfl T.b_len Y0 (qa (pv 1) qd)) (jL (pv 1) (pv 2) (jM hu)))))))
 (qf (qm (pv 1))))))),?_⟩
  ext;refine ⟨by show 2<=sizeLine;decide,fun g hg=>?_⟩;have s0:=qL (Sr H) (o:=.tup [.ty "list",.ty "tuple"]) hg;ext;refine qes (ha.same s0) qb ?_;ext;refine yq ?_;ext;refine qet (ha.same s0) ?_;rw [ya];ext;refine qU (fun h=>by have:=yk h;omega) fun _=>?_;ext;intro d hd;have s1:=qL s0 (o:=.dK []) hd;have hd0:H d=none:=s0.free hd;ext;refine qeu (K:=K) ha s1 (fun i σ H'=>∃ v2,σ=[some (.ref a),some (.ref d),v2]/\L2.Same H H'/\H' d=some (.dK (qba (ss.take i) 0))) ⟨none,rfl,s1,qb⟩ (fun i σ H' hp=>by obtain ⟨_,_,z,_⟩:=hp;exact z) (fun i y σ H' hy hp=>?_) fun σ H' hp=>?_
  ·obtain ⟨v2,rfl,s2,hk⟩:=hp;rw [yd] at hy;obtain ⟨x,hx,rfl⟩:=yn.mp hy;have hil:i < ss.length:=(yc.mp hx).1;have htk:ss.take (i + 1)=ss.take i++[x]:=by rw [yQ,hx];rfl
   have hm:x∉ss.take i:=fun z=>by
    have h3:(ss.take (i + 1)).Nodup:=hnd.sublist (xR _ _);rw [htk] at h3;exact (yX.mp h3).2.2 _ z x (by simp) rfl
   ext;refine ⟨x,rfl,hnm x (ye hx),fun H1 t1=>?_⟩;have s3:=s2.trans t1;ext;refine yq ?_;ext;refine .inr (.inl ⟨d,_,rfl,DGet.k (k:=Sum.inr x) (t1 _ _ hk),?_⟩);rw [qa3,yl hm];ext;refine yq ?_;ext;refine .inr ⟨_,t1 _ _ hk,?_⟩;ext;refine .inr ⟨d,_,rfl,DPut.k (k:=Sum.inr x) (t1 _ _ hk) (qi (by rw [zm,yR];omega)),?_⟩;refine ⟨_,rfl,qaa s3 hd0,?_⟩;rw [qb,qag _ (qa2 hm),htk,qcb,zm];simp only [xJ]
  ·obtain ⟨v2,rfl,s2,hk⟩:=hp;ext;rw [ya,yV] at hk;exact q d H' s2 hd0 hk
theorem ul:FnScope ["self","names","ties"] ["self","names","ties"] (qh zI):=fS
theorem Km:FnScope ["numbers","ties","near","tie","one","other"] ["numbers","ties"] (qh qap):=fS
noncomputable def qa4 (ss:List Str) (ns:List Nat) (seen:List (Str×Str)):Prop:=ns.length=ss.length/\(∀ a,ns.getD a 0 < 2 ^ ss.length)/\∀ a b s t,ss[a]?=some s->ss[b]?=some t->(ns.getD a 0).testBit b=decide ((s,t)∈seen\/(t,s)∈seen)
theorem qw (h:ss.Nodup) {a b:Nat} (ha:ss[a]?=some s) (hb:ss[b]?=some s):a=b:=by
 have hp:=YS.mp h;obtain ⟨la,ea⟩:=yc.mp ha;obtain ⟨lb,eb⟩:=yc.mp hb;rcases Nat.lt_trichotomy a b with q | q | q
 ·exact absurd (ea.trans eb.symm) (hp a b la lb q)
 ·exact q
 ·exact absurd (eb.trans ea.symm) (hp b a lb la q)
theorem bits_zero:qa4 ss (List.replicate ss.length 0) []:=by
 have z:∀ a,(List.replicate ss.length 0).getD a 0=0:=fun a=>by
  simp only [List.getD,Xi];split<;>rfl
 refine ⟨by simp,fun a=>by rw [z a];exact Xd _,fun a b s t ha hb=>?_⟩;rw [z a];simp
theorem qaq {v:Nat} (h:i < ns.length):(ns.set i v).getD j 0=if i=j then v else ns.getD j 0:=by
 simp only [List.getD,List.getElem?_set];by_cases e:i=j
 ·subst e;simp [h]
 ·simp [e]
theorem bits_step {seen:List (Str×Str)} (hb:qa4 ss ns seen) (hn:ss.Nodup) {t:Str} (hi:ss[i]?=some s) (hj:ss[j]?=some t) (hst:s≠t) :
  qa4 ss ((ns.set i (ns.getD i 0 ||| 2 ^ j)).set j (ns.getD j 0 ||| 2 ^ i)) (seen++[(s,t)]):=by
 obtain ⟨hl,hlt,h⟩:=hb;have li:i < ns.length:=by rw [hl];exact (yc.mp hi).1
 have lj:j < ns.length:=by rw [hl];exact (yc.mp hj).1
 have nij:i≠j:=fun e=>by rw [e,hj] at hi;cases hi;exact hst rfl
 have li':i < ss.length:=(yc.mp hi).1;have lj':j < ss.length:=(yc.mp hj).1;refine ⟨by simp [hl],fun a=>?_,fun a b u v ha hb'=>?_⟩
 ·rw [qaq (by simpa using lj),qaq li];split
  ·exact ke (hlt _) (xp (by decide) li')
  ·split
   ·exact ke (hlt _) (xp (by decide) lj')
   ·exact hlt _
 rw [qaq (by simpa using lj),qaq li];have h0:=h a b u v ha hb';have key:∀ P Q:Prop,(P↔Q)->∀ [Decidable P] [Decidable Q],decide P=decide Q:=fun P Q e=>by intro _ _;exact Ys.mpr e
 by_cases ja:j=a
 ·subst ja;rw [hj] at ha;cases ha;rw [yE rfl,X3,h0,XV];by_cases ib:i=b
  ·subst ib;rw [hi] at hb';cases hb';simp
  ·have vs:v≠s:=fun e=>by subst e;exact ib (qw hn hi hb')
   simp only [ib,kO,kl];apply Ys.mpr;simp only [yz,yB,Xb];constructor
   ·rintro (z | z)
    ·exact .inl (.inl z)
    ·exact .inr (.inl z)
   ·rintro ((z | ⟨z,_⟩) | (z | ⟨z,_⟩))
    ·exact .inl z
    ·exact absurd z.symm hst
    ·exact .inr z
    ·exact absurd z vs
 ·rw [yy ja];by_cases ia:i=a
  ·subst ia;rw [hi] at ha;cases ha;rw [yE rfl,X3,h0,XV];by_cases jb:j=b
   ·subst jb;rw [hj] at hb';cases hb';simp
   ·have vt:v≠t:=fun e=>by subst e;exact jb (qw hn hj hb')
    simp only [jb,kO,kl];apply Ys.mpr;simp only [yz,yB,Xb];constructor
    ·rintro (z | z)
     ·exact .inl (.inl z)
     ·exact .inr (.inl z)
    ·rintro ((z | ⟨_,z⟩) | (z | ⟨_,z⟩))
     ·exact .inl z
     ·exact absurd z vt
     ·exact .inr z
     ·exact absurd z hst
  ·rw [yy ia,h0];have us:u≠s:=fun e=>by subst e;exact ia (qw hn hi ha)
   have ut:u≠t:=fun e=>by subst e;exact ja (qw hn hj ha)
   apply Ys.mpr;simp only [yz,yB,Xb];constructor
   ·rintro (z | z)
    ·exact .inl (.inl z)
    ·exact .inr (.inl z)
   ·rintro ((z | ⟨z,_⟩) | (z | ⟨_,z⟩))
    ·exact .inl z
    ·exact absurd z us
    ·exact .inr z
    ·exact absurd z ut
noncomputable def qcZ (ns:List Nat):List V:=ns.map fun (n:Nat)=>.int (n:Int)
theorem qaF (h:i < ns.length):(qcZ ns)[i]?=some (.int (ns.getD i 0:Nat)):=by
 unfold qcZ;rw [yd,yb h];simp [List.getD,h]
theorem qc0 (ns:List Nat) (i m:Nat):(qcZ ns).set i (.int m)=qcZ (ns.set i m):=by
 unfold qcZ;rw [List.map_set]
theorem natV_zero (k:Nat):(List.replicate k [V.int 0]).flatten=qcZ (List.replicate k 0):=by
 induction k with
 | zero=>rfl
 | succ k ih=>rw [Y5,xS,ih];rfl
theorem qdH (h:j < n):ixN n (j:Int)=some j:=by
 unfold ixN;rw [yE (by omega),yE (by omega)];rfl
noncomputable def UN (x y:Str×Str):Prop:=x≠y/\x≠(y.2,y.1)
structure TGo (ss:List Str) (tps:List (Str×Str)):Prop where
 few:tps.length<=30
 inn:∀ ab∈tps,ab.1∈ss/\ab.2∈ss/\ab.1≠ab.2
 un:tps.Pairwise UN
structure WOk (ss:List Str) (ns:List Nat):Prop where
 len:ns.length=ss.length
 few:ss.length<=14
 nd:ss.Nodup
 lt:∀ a,ns.getD a 0 < 2 ^ ss.length
 nm:∀ s∈ss,zu s=true
inductive WebAt (cw:Addr) (H:Hp) (x:Addr) (ss:List Str) (ns:List Nat):Prop|mk (dx d ol n:_) (_:H x=some (.ins cw dx (qE "near" (.ref n) (qE "order" (.ref ol) (qE "numbers" (.ref d) []))))) (_:H d=some (.dK (qba ss 0))) (_:H ol=some (.lst (ss.map V.str))) (_:H n=some (.lst (qcZ ns))) (_:WOk ss ns)
theorem WebAt.same (h:WebAt cw H x ss ns) (s:L2.Same H H'):WebAt cw H' x ss ns:=by
 obtain ⟨dx,d,ol,n,h1,h2,h3,h4,h5⟩:=h;exact ⟨dx,d,ol,n,s _ _ h1,s _ _ h2,s _ _ h3,s _ _ h4,h5⟩
inductive WebN (H0:Hp) (cw:Addr) (H:Hp) (x:Addr) (ss:List Str) (ns:List Nat):Prop|mk (dx d ol n:_) (_:H x=some (.ins cw dx (qE "near" (.ref n) (qE "order" (.ref ol) (qE "numbers" (.ref d) []))))) (_:H d=some (.dK (qba ss 0))) (_:H ol=some (.lst (ss.map V.str))) (_:H n=some (.lst (qcZ ns))) (_:WOk ss ns) (_:H0 d=none) (_:H0 ol=none) (_:H0 n=none)
theorem WebN.web (h:WebN H0 cw H x ss ns):WebAt cw H x ss ns:=by
 obtain ⟨dx,d,ol,n,h1,h2,h3,h4,h5,_⟩:=h;exact ⟨dx,d,ol,n,h1,h2,h3,h4,h5⟩
inductive WebP (A:Addr->Prop) (cw:Addr) (H:Hp) (x:Addr) (ss:List Str) (ns:List Nat):Prop|mk (dx d ol n:_) (_:H x=some (.ins cw dx (qE "near" (.ref n) (qE "order" (.ref ol) (qE "numbers" (.ref d) []))))) (_:H d=some (.dK (qba ss 0))) (_:H ol=some (.lst (ss.map V.str))) (_:H n=some (.lst (qcZ ns))) (_:WOk ss ns) (_:¬ A x) (_:¬ A d) (_:¬ A ol) (_:¬ A n)
theorem qcc:∀ (ss:List Str) (i:Nat),(qba ss i).map (fun kv=>kV kv.1)=ss.map V.str
 | [],_=>rfl
 | s::r,i=>congrArg (V.str s::·) (qcc r (i + 1))
noncomputable def PLT (H:Hp) (l:Addr) (ts:List Addr) (tps:List (Str×Str)):Prop:=LTu H l (ts.map V.ref)/\All2 (fun t ab=>H t=some (.tup [.str ab.1,.str ab.2])) ts tps
inductive spNear (vs:List V) (H:Hp) (Q:VK) (E:XK):Prop|mk (d l:Addr) (ss:List Str) (ts:List Addr) (tps:List (Str×Str)) (_:vs=[.ref d,.ref l]) (_:H d=some (.dK (qba ss 0))) (_:ss.length<=14) (_:ss.Nodup) (_:(∀ s∈ss,zu s=true)) (_:PLT H l ts tps) (_:TGo ss tps) (_:∀ n ns H',L2.Same H H'->H n=none->H' n=some (.lst (qcZ ns))->qa4 ss ns tps->Q (.ref n) H')
theorem ok_near (F:Fun K "near_of" "near_of" qap f fd) (T:Txt K mg cc cw) (Kk:DefOk P w K mg base CX0 3 "are_two_places" ["numbers","thing"] spTwo) (Kw:DefOk P w K mg base CX0 1 "has_bit" ["bits","number"] spBit) :
  FnOk P w K mg base CX0 4 f fd ["numbers","ties"] spNear:=by
 refine F.ok Km fun _ _ _ _ H vs Q E hr h=>?_
 ·obtain ⟨d,l,ss,ts,tps,rfl,hd,hs14,hnd,hnm,⟨hl,hal⟩,hg,q⟩:=h;have hu:=za hr;have htl:=hal.len;have few:=hg.few;refine ⟨_,(qc (qP (jd (qX (qk (qdB (K:=K) rfl) rfl T.b_isinstance YF (qa (pv 1) (qa (ju (qa (jB (v:=.ty "list") rfl T.b_list xN rfl) (qa (jB (v:=.ty "tuple") rfl T.b_tuple Xx rfl) qd))) qd))))) (qf jv) qv)
 (qc (qP (qp qdb (qk (zr (K:=K) rfl) rfl T.b_len Y0 (qa (pv 1) qd)) (qbu rfl T.g_MOST_TIES) (qD _)) (qf jv) qv)
 (qc (qo (i:=2) Km.nd rfl (yJ rfl) (qC qei (je (qa qg qd)) (qk (zr (K:=K) rfl) rfl T.b_len Y0 (qa (pv 0) qd))))
 (qc (q9 yP rfl (jg (K:=K) rfl (pv 1)) (qr (i:=3) Km.nd rfl (yJ rfl))
 (qc (qP (jd (qX (qt Kk (hmR hr) qF (qa (pv 0) (qa (pv 3) qd))))) (qf jv) qv)
 (qc (qo (i:=4) Km.nd rfl (yJ rfl) (qx (qy (K:=K) rfl hu) (pv 0) (qx (qy (K:=K) rfl hu) (pv 3) qg (fun _ _=>rfl)) (fun _ _=>rfl)))
 (qc (qo (i:=5) Km.nd rfl (yJ rfl) (qx (qy (K:=K) rfl hu) (pv 0) (qx (qy (K:=K) rfl hu) (pv 3) qg (fun _ _=>rfl)) (fun _ _=>rfl)))
 (qc (qP (qX (qt Kw (hmR hr) qF (qa (qx (qy (K:=K) rfl hu) (pv 2) (pv 4) (fun _ _=>rfl)) (qa (pv 5) qd)))) (qf jv) qv)
 (qc (jG (qC qeF (qx (qy (K:=K) rfl hu) (pv 2) (pv 4) (fun _ _=>rfl)) (qC qbO qg (pv 5))) (jL (pv 2) (pv 4) (jM hu)))
 (qf (jG (qC qeF (qx (qy (K:=K) rfl hu) (pv 2) (pv 5) (fun _ _=>rfl)) (qC qbO qg (pv 4))) (jL (pv 2) (pv 5) (jM hu))))))))))
 (qf (qm (pv 2))))))),?_⟩
  ext;refine ⟨by show 2<=sizeLine;decide,fun g hgg=>?_⟩;have s0:=qL (Sr H) (o:=.tup [.ty "list",.ty "tuple"]) hgg;ext;refine qes (hl.same s0) qb ?_;ext;refine yq ?_;ext;refine qet (hl.same s0) ?_;rw [ya];ext;refine qU (fun h=>by have:=yk h;omega) fun _=>?_;ext;refine ⟨by show 1<=sizeLine;decide,fun z hzz=>?_⟩;have s1:=qL s0 (o:=.lst [.int 0]) hzz;ext;refine .inr ⟨_,s1 _ _ hd,?_⟩;ext;rw [zm];refine ⟨z,_,_,rfl,rfl,qb,by omega,by omega,by show 1 * _<=sizeLine;rw [Yb];exact yZ (qi (by omega)),fun n hn=>?_⟩;rw [Yb,natV_zero];have s2:=qL s1 (o:=.lst (qcZ (List.replicate ss.length 0))) hn;have n0:H n=none:=s1.free hn;ext;refine qeu (K:=K) hl s2 (fun i σ H'=>∃ v3 v4 v5 ns,σ=[some (.ref d),some (.ref l),some (.ref n),v3,v4,v5]/\L2.Same H H'/\H' n=some (.lst (qcZ ns))/\qa4 ss ns (tps.take i))
   ⟨none,none,none,_,rfl,s2,qb,bits_zero⟩ (fun i σ H' hp=>by obtain ⟨_,_,_,_,_,z,_⟩:=hp;exact z) (fun i y σ H' hy hp=>?_) fun σ H' hp=>?_
  ·obtain ⟨v3,v4,v5,ns,rfl,s3,hnn,hbits⟩:=hp;rw [yd] at hy;obtain ⟨t,ht,rfl⟩:=yn.mp hy;have hil:i < ts.length:=(yc.mp ht).1;obtain ⟨⟨sx,sy⟩,hab⟩:∃ ab,tps[i]?=some ab:=⟨_,yb (by rw [<- htl];exact hil)⟩;have ea:=hal.at_ i t _ ht hab;obtain ⟨m1,m2,hne⟩:=hg.inn _ (ye hab);dsimp only at ea m1 m2 hne;have htk:tps.take (i + 1)=tps.take i++[(sx,sy)]:=by rw [yQ,hab];rfl
   have hno:¬ ((sx,sy)∈tps.take i\/(sy,sx)∈tps.take i):=fun z=>by
    have h3:(tps.take (i + 1)).Pairwise UN:=hg.un.sublist (xR _ _);rw [htk] at h3;have h4:=(List.pairwise_append.mp h3).2.2;rcases z with z | z
    ·exact (h4 _ z (sx,sy) (by simp)).1 rfl
    ·exact (h4 _ z (sx,sy) (by simp)).2 rfl
   obtain ⟨ja,hja,gja,vja⟩:=jX (i:=0) m1;obtain ⟨jb,hjb,gjb,vjb⟩:=jX (i:=0) m2;rw [xJ] at vja vjb;have nab:ja≠jb:=fun e=>by rw [e,gjb] at gja;cases gja;exact hne rfl
   have lna:ja < ns.length:=by rw [hbits.1];exact hja
   have lnb:jb < ns.length:=by rw [hbits.1];exact hjb
   ext;refine ⟨d,t,ss,sx,sy,rfl,s3 _ _ hd,s3 _ _ ea,hnm _ m1,hnm _ m2,m1,m2,hne,fun H1 t1=>?_⟩;have s4:=s3.trans t1;have hn1:=t1 _ _ hnn;ext;refine yq ?_;ext;refine .inl (qaY (s4 _ _ ea) rfl ?_);refine .inr ⟨d,.int ja,rfl,?_,?_⟩
   ·have:=DGet.k (k:=Sum.inr sx) (s4 _ _ hd);rw [vja] at this;exact this
   ext;refine .inl (qaY (s4 _ _ ea) rfl ?_);refine .inr ⟨d,.int jb,rfl,?_,?_⟩
   ·have:=DGet.k (k:=Sum.inr sy) (s4 _ _ hd);rw [vjb] at this;exact this
   ext;refine .inl (zR hn1 (qA (qaF lna)) ?_);ext;refine ⟨_,_,rfl,by omega,?_⟩;rw [qbx,hbits.2.2 ja jb sx sy gja gjb,yl hno];ext;refine yq ?_;ext;refine .inl (zR hn1 (qA (qaF lna)) ?_);ext;refine vI ⟨by omega,by omega,by decide⟩ ?_;ext;rw [qdG];refine .inl (qd9 hn1 (qdH (by unfold qcZ;rw [ya];exact lna)) ?_);rw [qc0];ext;have e2:(ns.set ja (ns.getD ja 0 ||| 2 ^ jb)).getD jb 0=ns.getD jb 0:=by rw [qaq lna,yy nab]
   refine .inl (zR qb (qA (qaF (by simpa using lnb))) ?_);ext;refine vI ⟨by omega,by omega,by decide⟩ ?_;ext;rw [qdG,e2];refine .inl (qd9 qb (qdH (by unfold qcZ;rw [ya];simpa using lnb)) ?_);rw [qc0];refine ⟨_,_,_,_,rfl,qaa (qaa s4 n0) n0,qb,?_⟩;rw [htk];exact bits_step hbits hnd gja gjb hne
  ·obtain ⟨v3,v4,v5,ns,rfl,s3,hnn,hbits⟩:=hp;ext;rw [ya,htl,yV] at hbits;exact q n _ H' s3 n0 hnn hbits
inductive spWeb (cw:Addr) (vs:List V) (H:Hp) (Q:VK) (E:XK):Prop|mk (x dx a l:Addr) (ss:List Str) (ts:List Addr) (tps:List (Str×Str)) (_:vs=[.ref x,.ref a,.ref l]) (_:H x=some (.ins cw dx [])) (_:LTu H a (ss.map V.str)) (_:ss.length<=14) (_:ss.Nodup) (_:(∀ s∈ss,zu s=true)) (_:PLT H l ts tps) (_:TGo ss tps) (_:∀ ns H',But x H H'->WebN H cw H' x ss ns->qa4 ss ns tps->Q .non H')
theorem PLT.but {C:Addr} {fs:List (Str×V)} (h:PLT H l ts tps) (hx:H x=some (.ins C dx fs)) (b:But x H H'):PLT H' l ts tps:=
 ⟨h.1.imp (fun e=>b _ _ (zv e hx (by intro z;cases z)) e) (fun e=>b _ _ (zv e hx (by intro z;cases z)) e),h.2.mono fun t ab e=>b _ _ (zv e hx (by intro z;cases z)) e⟩
theorem ok_web (F:Fun K "__init__" "Web.__init__" zI f fd) (T:Txt K mg cc cw) (ug:DefOk P w K mg base CX0 4 "numbers_of" ["names"] spNums) (uD:DefOk P w K mg base CX0 4 "near_of" ["numbers","ties"] spNear) :
  FnOk P w K mg base CX0 5 f fd ["self","names","ties"] (spWeb cw):=by
 refine F.ok ul fun _ _ _ _ H vs Q E hr h=>?_
 ·obtain ⟨x,dx,a,l,ss,ts,tps,rfl,hx,ha,h14,nd,hnm,hpl,hg,q⟩:=h;have hu:=za hr;refine ⟨_,(qc (jK (K:=K) rfl (pv 0) (qt ug (hmR hr) qF (qa (pv 1) qd)) rfl)
 (qc (jK (K:=K) rfl (pv 0) (qY (qa0 (K:=K) rfl rfl) rfl T.b_list xN (qa (qB (K:=K) rfl (pv 0) rfl) qd)) rfl)
 (qf (jK (K:=K) rfl (pv 0) (qt uD (hmR hr) qF (qa (qB (K:=K) rfl (pv 0) rfl) (qa (pv 2) qd))) rfl)))),?_⟩
  ext;refine ⟨a,ss,rfl,ha,h14,nd,hnm,fun d H1 s1 hd0 hd=>?_⟩;have b1:=(But.refl x H).same s1;have hx1:=s1 _ _ hx;have ndx:d≠x:=zv hd hx1 (by intro z;cases z);ext;refine .inl ⟨x,cw,dx,[],rfl,hx1,T.wcl,T.wn,by decide,?_⟩;have b2:=b1.put (o:=.ins cw dx (qE "numbers" (.ref d) []));have hd2:upd H1 x (.ins cw dx (qE "numbers" (.ref d) [])) d=some (.dK (qba ss 0)):=by rw [qe ndx];exact hd
  have ex2:upd H1 x (.ins cw dx (qE "numbers" (.ref d) [])) x=_:=qb;generalize upd H1 x (.ins cw dx (qE "numbers" (.ref d) []))=H2 at b2 hd2 ex2;ext;refine .inl ⟨x,cw,dx,_,.ref d,rfl,ex2,T.wcl,T.wn,by rw [qz,yE rfl],?_⟩;ext;refine .inr (.inl ⟨d,_,rfl,hd2,fun ol ho=>?_⟩);rw [qcc];have no:ol≠x:=fun e=>by subst e;rw [ex2] at ho;cases ho
  have b3:=b2.new (o:=.lst (ss.map V.str)) ho
  have hol0:H ol=none:=by
   cases q':H ol with
   | none=>rfl
   | some o'=>rw [b2 ol o' no q'] at ho;cases ho
  have ndl:d≠ol:=qj hd2 ho;ext;refine .inl ⟨x,cw,dx,_,rfl,(by rw [qe no.symm];exact ex2),T.wcl,T.wo,Yu (js _ _ _) (by decide),?_⟩;have b4:=b3.put (o:=.ins cw dx (qE "order" (.ref ol) (qE "numbers" (.ref d) [])));have hd3:upd (upd H2 ol (.lst (ss.map V.str))) x (.ins cw dx (qE "order" (.ref ol) (qE "numbers" (.ref d) []))) d=some (.dK (qba ss 0)):=by rw [qe ndx,qe ndl];exact hd2
  have ho3:upd (upd H2 ol (.lst (ss.map V.str))) x (.ins cw dx (qE "order" (.ref ol) (qE "numbers" (.ref d) []))) ol=some (.lst (ss.map V.str)):=by rw [qe no];exact qb
  have ex3:upd (upd H2 ol (.lst (ss.map V.str))) x (.ins cw dx (qE "order" (.ref ol) (qE "numbers" (.ref d) []))) x=_:=qb;generalize upd (upd H2 ol (.lst (ss.map V.str))) x (.ins cw dx (qE "order" (.ref ol) (qE "numbers" (.ref d) [])))=H3 at b4 hd3 ho3 ex3;ext;refine .inl ⟨x,cw,dx,_,.ref d,rfl,ex3,T.wcl,T.wn,by rw [qz,yy (by decide +kernel),qz,yE rfl],?_⟩;ext;refine ⟨d,l,ss,ts,tps,rfl,hd3,h14,nd,hnm,hpl.but hx b4,hg,fun n ns H4 s4 hn0 hn hbits=>?_⟩;have hx4:=s4 _ _ ex3;have nnx:n≠x:=zv hn hx4 (by intro z;cases z);ext;refine .inl ⟨x,cw,dx,_,rfl,hx4,T.wcl,T.wr,Yu (js _ _ _) (Yu (Nat.succ_le_succ (js _ _ _)) (by decide)),?_⟩
  have hn00:H n=none:=by
   cases q':H n with
   | none=>rfl
   | some o'=>rw [b4 n o' nnx q'] at hn0;cases hn0
  exact q ns _ (b4.same s4).put ⟨dx,d,ol,n,qb,by rw [qe ndx];exact s4 _ _ hd3,by rw [qe no];exact s4 _ _ ho3,by rw [qe nnx];exact hn,⟨hbits.1,h14,nd,hbits.2.1,hnm⟩,hd0,hol0,hn00⟩ hbits
theorem ub:FnScope ["self"] ["self"] (qh j5):=fS
theorem KY:FnScope ["self","thing"] ["self","thing"] (qh jx):=fS
theorem KZ:FnScope ["self","place"] ["self","place"] (qh jy):=fS
theorem uc:FnScope ["self","place"] ["self","place"] (qh j6):=fS
theorem KO:FnScope ["self","place"] ["self","place"] (qh jk):=fS
theorem KW:FnScope ["self","one","other","bits"] ["self","one","other"] (qh zJ):=fS
theorem K1:FnScope ["self","bits"] ["self","bits"] (qh jq):=fS
theorem jU {n:V}:(qE "near" n (qE "order" ol (qE "numbers" d []))).lookup ("numbers":Str)=some d:=by
 rw [qz,yy (by decide +kernel),qz,yy (by decide +kernel),qz,yE rfl]
theorem qby {n:V}:(qE "near" n (qE "order" ol (qE "numbers" d []))).lookup ("order":Str)=some ol:=by
 rw [qz,yy (by decide +kernel),qz,yE rfl]
theorem lk_near {n:V}:(qE "near" n (qE "order" ol (qE "numbers" d []))).lookup ("near":Str)=some n:=by
 rw [qz,yE rfl]
theorem jY {f:Str} {n:V} (h:(f=="near"||f=="order"||f=="numbers")=false):(qE "near" n (qE "order" ol (qE "numbers" d []))).lookup f=none:=by
 simp only [Bool.or_eq_false_iff,YB] at h;rw [qz,yy h.1.1,qz,yy h.1.2,qz,yy h.2];rfl
noncomputable def inB:List Str->Nat->Nat->List Str
 | [],_,_=>[]
 | s::r,i,b=>if b.testBit i=true then s::inB r (i + 1) b else inB r (i + 1) b
theorem qaG (y:Str) (b:Nat):∀ (l:List Str) (k:Nat),inB (l++[y]) k b=inB l k b++(if b.testBit (k + l.length)=true then [y] else [])
 | [],k=>by simp [inB]
 | s::r,k=>by
  have ih:=qaG y b r (k + 1);have e:k + 1 + r.length=k + (s::r).length:=by simp;omega
  rw [e] at ih;simp only [kt,inB,ih];split<;>simp
theorem qa5 (b:Nat):∀ (l:List Str) (k:Nat),(inB l k b).length<=l.length
 | [],_=>yh _
 | s::r,k=>by
  have ih:=qa5 b r (k + 1);simp only [inB];split
  ·simp;omega
  ·simp;omega
inductive spHas (cw:Addr) (vs:List V) (H:Hp) (Q:VK) (E:XK):Prop|mk (x:Addr) (ss:List Str) (ns:List Nat) (y:Str) (_:vs=[.ref x,.str y]) (_:WebAt cw H x ss ns) (_:y∈ss) (_:∀ H',L2.Same H H'->Q (.bl true) H')
inductive spNum (cw:Addr) (vs:List V) (H:Hp) (Q:VK) (E:XK):Prop|mk (x:Addr) (ss:List Str) (ns:List Nat) (y:Str) (j:Nat) (_:vs=[.ref x,.str y]) (_:WebAt cw H x ss ns) (_:ss[j]?=some y) (_:∀ H',L2.Same H H'->Q (.int (j:Nat)) H')
inductive spBB (cw:Addr) (vs:List V) (H:Hp) (Q:VK) (E:XK):Prop|mk (x:Addr) (ss:List Str) (ns:List Nat) (y:Str) (j:Nat) (_:vs=[.ref x,.str y]) (_:WebAt cw H x ss ns) (_:ss[j]?=some y) (_:∀ H',L2.Same H H'->Q (.int (ns.getD j 0:Nat)) H')
inductive spNIn (cw:Addr) (vs:List V) (H:Hp) (Q:VK) (E:XK):Prop|mk (x:Addr) (ss:List Str) (ns:List Nat) (b:Nat) (_:vs=[.ref x,.int b]) (_:WebAt cw H x ss ns) (_:∀ l,H l=none->Q (.ref l) (upd H l (.lst ((inB ss 0 b).map V.str))))
inductive spBs (cw:Addr) (vs:List V) (H:Hp) (Q:VK) (E:XK):Prop|mk (x:Addr) (ss:List Str) (ns:List Nat) (y:Str) (j:Nat) (_:vs=[.ref x,.str y]) (_:WebAt cw H x ss ns) (_:ss[j]?=some y) (_:∀ H',L2.Same H H'->∀ l,H' l=none->Q (.ref l) (upd H' l (.lst ((inB ss 0 (ns.getD j 0)).map V.str))))
inductive spTied (cw:Addr) (vs:List V) (H:Hp) (Q:VK) (E:XK):Prop|mk (x:Addr) (ss:List Str) (ns:List Nat) (y z:Str) (j i:Nat) (_:vs=[.ref x,.str y,.str z]) (_:WebAt cw H x ss ns) (_:ss[j]?=some y) (_:ss[i]?=some z) (_:∀ H',L2.Same H H'->Q (.bl ((ns.getD j 0).testBit i)) H')
inductive spPls (cw:Addr) (vs:List V) (H:Hp) (Q:VK) (E:XK):Prop|mk (x:Addr) (ss:List Str) (ns:List Nat) (_:vs=[.ref x]) (_:WebAt cw H x ss ns) (_:∀ l,H l=none->Q (.ref l) (upd H l (.lst (ss.map V.str))))
theorem ok_has (F:Fun K "has_place" "Web.has_place" jx f fd) (T:Txt K mg cc cw) (KB:DefOk P w K mg base CX0 2 "is_place" ["numbers","thing"] spPlace):FnOk P w K mg base CX0 3 f fd ["self","thing"] (spHas cw):=by
 refine F.ok KY fun _ _ _ _ H vs Q E hr h=>?_
 ·obtain ⟨x,ss,ns,y,rfl,⟨dx,d,ol,n,hx,hd,ho,hn,hw⟩,hy,q⟩:=h;refine ⟨_,(qf (qm (qt KB (hmR hr) qF (qa (qB (K:=K) rfl (pv 0) rfl) (qa (pv 1) qd))))),?_⟩;ext;refine .inl ⟨x,cw,dx,_,.ref d,rfl,hx,T.wcl,T.wn,jU,?_⟩;ext;exact ⟨d,ss,y,rfl,hd,hw.nm _ hy,hy,q⟩
theorem ok_num (F:Fun K "number_of" "Web.number_of" jy f fd) (T:Txt K mg cc cw) (Kn:MethOk P w K mg base CX0 3 cw "has_place" ["self","thing"] (spHas cw)):FnOk P w K mg base CX0 4 f fd ["self","place"] (spNum cw):=by
 refine F.ok KZ fun _ _ _ _ H vs Q E hr h=>?_
 ·obtain ⟨x,ss,ns,y,j,rfl,hW,gj,q⟩:=h;obtain ⟨dx,d,ol,n,hx,hd,ho,hn,hw⟩:=id hW;have hy:=ye gj;have hu:=za hr;refine ⟨_,(qc (qP (jd (qX (qG Kn (hmR hr) (pv 0) (qa (pv 1) qd)))) (qf jv) qv)
 (qf (qm (qx (qy (K:=K) rfl hu) (qB (K:=K) rfl (pv 0) rfl) (pv 1) (fun _ _=>rfl))))),?_⟩
  ext;refine ⟨x,dx,_,rfl,hx,jY (by decide +kernel),?_⟩;ext;refine ⟨x,ss,ns,y,rfl,hW,hy,fun H1 s1=>?_⟩;ext;refine yq ?_;obtain ⟨i,hi,gi,vj⟩:=jX (i:=0) hy;rw [xJ,qw hw.nd gi gj] at vj;ext;refine .inl ⟨x,cw,dx,_,.ref d,rfl,s1 _ _ hx,T.wcl,T.wn,jU,?_⟩;ext;refine .inr ⟨d,.int j,rfl,?_,q H1 s1⟩;have:=DGet.k (k:=Sum.inr y) (s1 _ _ hd);rw [vj] at this;exact this
theorem ok_bb (F:Fun K "bits_beside" "Web.bits_beside" jk f fd) (T:Txt K mg cc cw) (k9:MethOk P w K mg base CX0 4 cw "number_of" ["self","place"] (spNum cw)):FnOk P w K mg base CX0 5 f fd ["self","place"] (spBB cw):=by
 refine F.ok KO fun _ _ _ _ H vs Q E hr h=>?_
 ·obtain ⟨x,ss,ns,y,j,rfl,hW,gj,q⟩:=h;obtain ⟨dx,d,ol,n,hx,hd,ho,hn,hw⟩:=id hW;have hu:=za hr;refine ⟨_,(qf (qm (qx (qy (K:=K) rfl hu) (qB (K:=K) rfl (pv 0) rfl) (qG k9 (hmR hr) (pv 0) (qa (pv 1) qd)) (fun _ _=>rfl)))),?_⟩;ext;refine .inl ⟨x,cw,dx,_,.ref n,rfl,hx,T.wcl,T.wr,lk_near,?_⟩;ext;refine ⟨x,dx,_,rfl,hx,jY (by decide +kernel),?_⟩;ext;refine ⟨x,ss,ns,y,j,rfl,hW,gj,fun H1 s1=>?_⟩;exact .inl (zR (s1 _ _ hn) (qA (qaF (by rw [hw.len];exact (yc.mp gj).1))) (q H1 s1))
theorem ok_nin (F:Fun K "names_in" "Web.names_in" jq f fd) (T:Txt K mg cc cw) (Kw:DefOk P w K mg base CX0 1 "has_bit" ["bits","number"] spBit):FnOk P w K mg base CX0 2 f fd ["self","bits"] (spNIn cw):=by
 refine F.ok K1 fun _ _ _ _ H vs Q E hr h=>?_
 ·obtain ⟨x,ss,ns,b,rfl,⟨dx,d,ol,n,hx,hd,ho,hn,hw⟩,q⟩:=h;have hu:=za hr;refine ⟨_,(qf (qm (jw (sc:=qh jq) (XN:=["self","bits"]) ["name","bits","self"] 1 [1,0] rfl rfl rfl (by decide +kernel) rfl (by decide +kernel)
  (jg (K:=K) rfl (qB (K:=K) rfl (pv 0) rfl)) (fun _ _ _ _=>(qr (i:=0) (show (["name","bits","self"]:List Str).Nodup by decide +kernel) rfl (yJ rfl))) ji
  (fun _ _ _ _=>(jO (qX (qt Kw (hmR hr) qF (qa (pv 1) (qa (qx (qy (K:=K) rfl hu) (qB (K:=K) rfl (pv 2) rfl) (pv 0) (fun _ _=>rfl)) qd))))))
  (fun _ _ _ _=>(pv 0))))),?_⟩
  ext;refine .inl ⟨x,cw,dx,_,.ref ol,rfl,hx,T.wcl,T.wo,qby,?_⟩;refine .inl ⟨⟨_,SqL.of ho⟩,jo (K:=K) (fun i ys H'=>H'=H/\ys=(inB (ss.take i) 0 b).map V.str) ⟨rfl,by simp [inB]⟩ (fun i ys H' _ hp=>by rw [hp.1];exact SqL.of ho) (fun i y ys H' hy hp=>?_) fun ys H' hp=>?_⟩
  ·obtain ⟨rfl,rfl⟩:=hp;have hi:i < ss.length:=by simpa using (yc.mp hy).1
   have gi:ss[i]?=some ss[i]:=yb hi;generalize ss[i]=sy at gi;have ey:y=.str sy:=by rw [yd,gi] at hy;cases hy;rfl
   subst ey;obtain ⟨j,hj,gj,vj⟩:=jX (i:=0) (ye gi);rw [xJ] at vj;have hji:j=i:=qw hw.nd gj gi;subst hji;have htk:ss.take (j + 1)=ss.take j++[sy]:=by rw [yQ,gi];rfl
   have hln:(ss.take j).length=j:=by rw [yR];omega
   ext;refine .inl ⟨x,cw,dx,_,.ref d,rfl,hx,T.wcl,T.wn,jU,?_⟩;ext;refine .inr ⟨d,.int j,rfl,?_,?_⟩
   ·have:=DGet.k (k:=Sum.inr sy) hd;rw [vj] at this;exact this
   ext;refine ⟨_,_,rfl,by omega,?_⟩;rw [qbx];ext
   have few:((inB (ss.take j) 0 b).map V.str).length < sizeLine:=by
    rw [ya];exact qi (yi (qa5 _ _ _) (by rw [hln];have:=hw.few;omega))
   refine qU (fun hb=>?_) fun hb=>?_
   ·ext;refine ⟨few,rfl,?_⟩;rw [htk,qaG,hln,xJ,yE hb];simp
   ·refine ⟨rfl,?_⟩;rw [htk,qaG,hln,xJ,yy hb];simp
  ·obtain ⟨rfl,rfl⟩:=hp;have etk:ss.take (ss.map V.str).length=ss:=by rw [ya,yV]
   rw [etk];refine ⟨?_,fun l hl=>q l hl⟩;rw [ya];exact yZ (qi (yi (qa5 _ _ _) (by have:=hw.few;omega)))
theorem ok_bs (F:Fun K "beside" "Web.beside" j6 f fd) (T:Txt K mg cc cw) (Kj:MethOk P w K mg base CX0 5 cw "bits_beside" ["self","place"] (spBB cw)) (K6:MethOk P w K mg base CX0 2 cw "names_in" ["self","bits"] (spNIn cw)):FnOk P w K mg base CX0 6 f fd ["self","place"] (spBs cw):=by
 refine F.ok uc fun _ _ _ _ H vs Q E hr h=>?_
 ·obtain ⟨x,ss,ns,y,j,rfl,hW,gj,q⟩:=h;obtain ⟨dx,d,ol,n,hx,_⟩:=id hW;refine ⟨_,(qf (qm (qG K6 (hmR hr) (pv 0) (qa (qG Kj (hmR hr) (pv 0) (qa (pv 1) qd)) qd)))),?_⟩;ext;refine ⟨x,dx,_,rfl,hx,jY (by decide +kernel),?_⟩;ext;refine ⟨x,dx,_,rfl,hx,jY (by decide +kernel),?_⟩;ext;refine ⟨x,ss,ns,y,j,rfl,hW,gj,fun H1 s1=>?_⟩;ext;exact ⟨x,ss,ns,_,rfl,hW.same s1,q H1 s1⟩
theorem ok_tied (F:Fun K "tied" "Web.tied" zJ f fd) (T:Txt K mg cc cw) (Kj:MethOk P w K mg base CX0 5 cw "bits_beside" ["self","place"] (spBB cw)) (k9:MethOk P w K mg base CX0 4 cw "number_of" ["self","place"] (spNum cw))
  (Kw:DefOk P w K mg base CX0 1 "has_bit" ["bits","number"] spBit):FnOk P w K mg base CX0 6 f fd ["self","one","other"] (spTied cw):=by
 refine F.ok KW fun _ _ _ _ H vs Q E hr h=>?_
 ·obtain ⟨x,ss,ns,y,z,j,i,rfl,hW,gj,gi,q⟩:=h;obtain ⟨dx,d,ol,n,hx,_⟩:=id hW;refine ⟨_,(qc (qo (i:=3) KW.nd rfl (yJ rfl) (qG Kj (hmR hr) (pv 0) (qa (pv 1) qd)))
 (qf (qm (qt Kw (hmR hr) qF (qa (pv 3) (qa (qG k9 (hmR hr) (pv 0) (qa (pv 2) qd)) qd)))))),?_⟩
  ext;refine ⟨x,dx,_,rfl,hx,jY (by decide +kernel),?_⟩;ext;refine ⟨x,ss,ns,y,j,rfl,hW,gj,fun H1 s1=>?_⟩;ext;refine ⟨x,dx,_,rfl,s1 _ _ hx,jY (by decide +kernel),?_⟩;ext;refine ⟨x,ss,ns,z,i,rfl,hW.same s1,gi,fun H2 s2=>?_⟩;ext;refine ⟨_,_,rfl,by omega,?_⟩;rw [qbx];exact q H2 (s1.trans s2)
theorem ok_pls (F:Fun K "places" "Web.places" j5 f fd) (T:Txt K mg cc cw):FnOk P w K mg base CX0 1 f fd ["self"] (spPls cw):=by
 refine F.ok ub fun _ _ _ _ H vs Q E hr h=>?_
 ·obtain ⟨x,ss,ns,rfl,⟨dx,d,ol,n,hx,hd,ho,hn,hw⟩,q⟩:=h;refine ⟨_,(qf (qm (qY (qa0 (K:=K) rfl rfl) rfl T.b_list xN (qa (qB (K:=K) rfl (pv 0) rfl) qd)))),?_⟩;ext;refine .inl ⟨x,cw,dx,_,.ref ol,rfl,hx,T.wcl,T.wo,qby,?_⟩;ext;exact .inl ⟨ol,_,rfl,.inl (SqL.of ho),q⟩
theorem qdI (hn:ss.Nodup) (h:ss[i]?=some s):ss.idxOf s=i:=by
 have hm:s∈ss:=ye h;have hl:ss.idxOf s < ss.length:=Yv hm;exact qw hn (by rw [yb hl,YM]) h
theorem zK (hn:ss.Nodup) (b:Nat):inB ss 0 b=ss.filter fun s=>b.testBit (ss.idxOf s):=by
 have key:∀ k,k<=ss.length->inB (ss.take k) 0 b=(ss.take k).filter fun s=>b.testBit (ss.idxOf s):=fun k=>by
  induction k with
  | zero=>intro _;simp [inB]
  | succ k ih =>
   intro hk;have gk:ss[k]?=some ss[k]:=yb (by omega);generalize ss[k]=sk at gk;have htk:ss.take (k + 1)=ss.take k++[sk]:=by rw [yQ,gk];rfl
   have hln:(ss.take k).length=k:=by rw [yR];omega
   rw [htk,qaG,Yp,ih (by omega),hln,xJ]
   congr 1
   rw [yU,YK,qdI hn gk]
 have:=key ss.length (yh _)
 rwa [yV] at this
theorem Ku:FnScope ["self","ties","one","other"] ["self"] (qh zL):=fS
theorem qdJ (hn:ss.Nodup) {b:Nat} (h:s∈inB ss 0 b):s∈ss/\b.testBit (ss.idxOf s)=true:=by
 rw [zK hn] at h;exact yp.mp h
noncomputable def qeO (ss:List Str) (ns:List Nat) (i:Nat):List (Str×Str):=((inB ss 0 (ns.getD i 0)).filter fun o=>decide (i < ss.idxOf o)).map fun o=>(ss.getD i "",o)
noncomputable def qK (ss:List Str) (ns:List Nat) (i:Nat):List (Str×Str):=(List.range i).flatMap (qeO ss ns)
noncomputable def PrAt (H H':Hp) (l:Addr) (t:Addr) (ab:Str×Str):Prop:=H t=none/\t≠l/\H' t=some (.tup [.str ab.1,.str ab.2])
theorem PrAt.same {t:Addr} (h:PrAt H H1 l t ab) (s:L2.Same H1 H2):PrAt H H2 l t ab:=⟨h.1,h.2.1,s _ _ h.2.2⟩
inductive spTs (cw:Addr) (vs:List V) (H:Hp) (Q:VK) (E:XK):Prop|mk (x:Addr) (ss:List Str) (ns:List Nat) (_:vs=[.ref x]) (_:WebAt cw H x ss ns) (_:∀ (l:Addr) (ts:List Addr) (H':Hp),L2.Same H H'->H l=none->H' l=some (.lst (ts.map V.ref))->ts.length<=196->All2 (PrAt H H' l) ts (qK ss ns ss.length)->Q (.ref l) H')
theorem ok_ts (F:Fun K "ties" "Web.ties" zL f fd) (T:Txt K mg cc cw) (KD:MethOk P w K mg base CX0 6 cw "beside" ["self","place"] (spBs cw)):FnOk P w K mg base CX0 7 f fd ["self"] (spTs cw):=by
 refine F.ok Ku fun _ _ _ _ H vs Q E hr h=>?_
 ·obtain ⟨x,ss,ns,rfl,hW,q⟩:=h;have hu:=za hr;obtain ⟨dx,d,ol,n,hx,hd,ho,hn,hw⟩:=id hW;have few:=hw.few
  have num:∀ (H1:Hp) (y:Str) (i:Nat),L2.Same H H1->ss[i]?=some y->DGet H1 d (.str y) (some (.int (i:Nat))):=fun H1 y i s1 gi=>by
   obtain ⟨j,hj,gj,vj⟩:=jX (i:=0) (ye gi);rw [xJ] at vj;have hji:j=i:=qw hw.nd gj gi;subst hji;have:=DGet.k (k:=Sum.inr y) (s1 _ _ hd);rw [vj] at this;exact this
  refine ⟨_,(qc (qo (i:=1) Ku.nd rfl (yJ rfl) (je qd))
 (qc (q9 yP rfl (jg (K:=K) rfl (qB (K:=K) rfl (pv 0) rfl)) (qr (i:=2) Ku.nd rfl (yJ rfl))
 (qf (q9 yP rfl (jg (K:=K) rfl (qG KD (hmR hr) (pv 0) (qa (pv 2) qd))) (qr (i:=3) Ku.nd rfl (yJ rfl))
 (qf (qP (qp qdj (qx (qy (K:=K) rfl hu) (qB (K:=K) rfl (pv 0) rfl) (pv 2) (fun _ _=>rfl)) (qx (qy (K:=K) rfl hu) (qB (K:=K) rfl (pv 0) rfl) (pv 3) (fun _ _=>rfl)) (qD _)) (qf (qM (qbj (K:=K) rfl yN y8 y9 qO (pv 1) (qa (ju (qa (pv 2) (qa (pv 3) qd))) qd)))) qv)))))
 (qf (qm (pv 1))))),?_⟩
  ext;refine ⟨by decide,fun l hl=>?_⟩;have s0:=qL (Sr H) (o:=.lst []) hl;ext;refine .inl ⟨x,cw,dx,_,.ref ol,rfl,s0 _ _ hx,T.wcl,T.wo,qby,?_⟩;refine .inl ⟨⟨_,SqL.of (s0 _ _ ho)⟩,jj (K:=K) (fun i σ H'=>∃ (ts:List Addr) (x2 x3:Option V),σ=[some (.ref x),some (.ref l),x2,x3]/\L2.Same H H'/\H' l=some (.lst (ts.map V.ref))/\ts.length<=i * 14/\All2 (PrAt H H' l) ts (qK ss ns i))
   ⟨[],none,none,rfl,s0,qb,by simp,All2.nil⟩ (fun i σ H' _ hp=>by obtain ⟨_,_,_,_,z,_⟩:=hp;exact SqL.of (z _ _ ho)) (fun i y σ H1 hy hp=>?_) fun σ H1 hp=>?_⟩
  ·obtain ⟨ts,x2,x3,rfl,s1,hl1,hlen,hall⟩:=hp;have hi:i < ss.length:=by simpa using (yc.mp hy).1
   have gi:ss[i]?=some ss[i]:=yb hi;generalize ss[i]=sy at gi;have ey:y=.str sy:=by rw [yd,gi] at hy;cases hy;rfl
   subst ey;have hny:=hw.nm sy (ye gi);ext;refine ⟨x,dx,_,rfl,s1 _ _ hx,jY (by decide +kernel),?_⟩;ext;refine ⟨x,ss,ns,sy,i,rfl,hW.same s1,gi,fun H2 s2 b hb=>?_⟩;have s3:=s1.trans s2;have s4:=qL s3 (o:=.lst ((inB ss 0 (ns.getD i 0)).map V.str)) hb;have s24:=qL s2 (o:=.lst ((inB ss 0 (ns.getD i 0)).map V.str)) hb;have eb:upd H2 b (.lst ((inB ss 0 (ns.getD i 0)).map V.str)) b=some (.lst ((inB ss 0 (ns.getD i 0)).map V.str)):=qb;have nbl:b≠l:=fun e=>by rw [e,s2 _ _ hl1] at hb;cases hb
   have hb0:H b=none:=s3.free hb;refine .inl ⟨⟨_,SqL.of qb⟩,?_⟩;generalize upd H2 b (.lst ((inB ss 0 (ns.getD i 0)).map V.str))=H3 at s4 s24 eb ⊢;have hmem:∀ o,o∈inB ss 0 (ns.getD i 0)->o∈ss:=fun o h=>(qdJ hw.nd h).1;have hbl:=qa5 (ns.getD i 0) ss 0;have edef:qeO ss ns i=((inB ss 0 (ns.getD i 0)).filter fun o=>decide (i < ss.idxOf o)).map fun o=>(ss.getD i "",o):=rfl;have egd:ss.getD i ""=sy:=by simp [List.getD,gi]
   rw [egd] at edef;generalize hbs:inB ss 0 (ns.getD i 0)=bs at eb hmem hbl edef ⊢;refine jj (K:=K) (fun k σ H'=>∃ (us:List Addr) (x3:Option V),σ=[some (.ref x),some (.ref l),some (.str sy),x3]/\L2.Same H H'/\H' b=some (.lst (bs.map V.str))/\H' l=some (.lst (us.map V.ref))/\us.length<=i * 14 + k/\All2 (PrAt H H' l) us (qK ss ns i++((bs.take k).filter fun o=>decide (i < ss.idxOf o)).map fun o=>(sy,o)))
    ⟨ts,_,rfl,s4,eb,s24 _ _ hl1,hlen,by simpa using hall.mono fun _ _ h=>h.same s24⟩ (fun k σ H' _ hp=>by obtain ⟨_,_,_,_,z,_⟩:=hp;exact SqL.of z) (fun k u σ H5 hu5 hp=>?_) fun σ H5 hp=>?_
   ·obtain ⟨us,x3,rfl,s5,eb5,hl5,hlen5,hall5⟩:=hp;have hk:k < bs.length:=by simpa using (yc.mp hu5).1
    have gk:bs[k]?=some bs[k]:=yb hk;generalize bs[k]=so at gk;have eu:u=.str so:=by rw [yd,gk] at hu5;cases hu5;rfl
    subst eu;have hso:=hmem so (ye gk);have hil:=Yv hso;have gso:ss[ss.idxOf so]?=some so:=by rw [yb hil,YM]
    have htk:bs.take (k + 1)=bs.take k++[so]:=by rw [yQ,gk];rfl
    ext;refine .inl ⟨x,cw,dx,_,.ref d,rfl,s5 _ _ hx,T.wcl,T.wn,jU,?_⟩;ext;refine .inr ⟨d,.int i,rfl,num H5 sy i s5 gi,?_⟩;ext;refine .inl ⟨x,cw,dx,_,.ref d,rfl,s5 _ _ hx,T.wcl,T.wn,jU,?_⟩;ext;refine .inr ⟨d,.int (ss.idxOf so:Nat),rfl,num H5 so _ s5 gso,?_⟩;ext;refine qU (fun hlt=>?_) fun hlt=>?_
    ·have hlt':i < ss.idxOf so:=by have:=yk hlt;omega
     ext;refine ⟨.inl ⟨rfl,_,SqL.of hl5⟩,?_⟩;ext;refine ⟨by show 2<=sizeLine;decide,fun t ht=>?_⟩;have nlt:l≠t:=qj hl5 ht;have nbt:b≠t:=qj eb5 ht;have s6:=qL (Sr H5) (o:=.tup [.str sy,.str so]) ht;ext;refine ⟨l,_,_,rfl,rfl,by rw [qe nlt];exact hl5,by rw [ya];exact qi (by have:i * 14<=14 * 14:=Nat.mul_le_mul_right 14 (by omega);omega),?_⟩;refine ⟨us++[t],_,rfl,qaa (s5.trans s6) hl,by rw [qe nbl,qe nbt];exact eb5,by rw [qb,yG];rfl,by rw [yt];show us.length + 1<=_;omega,?_⟩;rw [htk,Yp,yG,<- Yc];have e1:([so].filter fun o=>decide (i < ss.idxOf o)).map (fun o=>(sy,o))=[(sy,so)]:=by simp [hlt']
     rw [e1];refine All2.snoc (hall5.mono fun t' ab h=>⟨h.1,h.2.1,?_⟩) ⟨s5.free ht,nlt.symm,?_⟩
     ·rw [qe h.2.1];exact s6 _ _ h.2.2
     ·rw [qe nlt.symm,qb]
    ·have hlt':¬ i < ss.idxOf so:=fun h=>hlt (yI (by omega));refine ⟨us,_,rfl,s5,eb5,hl5,by omega,?_⟩;have e1:([so].filter fun o=>decide (i < ss.idxOf o)).map (fun o=>(sy,o))=[]:=by simp [hlt']
     rw [htk,Yp,yG,e1,Yr];exact hall5
   ·obtain ⟨us,x3,rfl,s5,eb5,hl5,hlen5,hall5⟩:=hp;rw [ya,yV] at hall5;rw [ya] at hlen5;refine ⟨us,_,_,rfl,s5,hl5,by omega,?_⟩;unfold qK at hall5 ⊢;rw [Xe,Xa];have e1:[i].flatMap (qeO ss ns)=(bs.filter fun o=>decide (i < ss.idxOf o)).map fun o=>(sy,o):=by rw [<- edef];simp
    rw [e1];exact hall5
  ·obtain ⟨ts,x2,x3,rfl,s1,hl1,hlen,hall⟩:=hp;rw [ya] at hlen hall;ext;exact q l ts H1 s1 hl hl1 (by have:ss.length * 14<=14 * 14:=Nat.mul_le_mul_right 14 few;omega) hall
noncomputable def Box (H:Hp) (p:Addr):Prop:=∃ a b c:Int,H p=some (.lst [.int a,.int b,.int c])
noncomputable def BB (p:Addr) (H H':Hp):Prop:=(∀ b o,b≠p->H b=some o->H' b=some o)/\Box H' p
theorem BB.refl (h:Box H p):BB p H H:=⟨fun _ _ _ e=>e,h⟩
theorem BB.trans (a:BB p H H1) (b:BB p H1 H2):BB p H H2:=⟨fun c o n e=>b.1 c o n (a.1 c o n e),b.2⟩
theorem BB.new (a:BB p H H1) (hl:H1 l=none):BB p H (upd H1 l o):=by
 obtain ⟨x,y,z,hp⟩:=a.2;refine ⟨fun c u n e=>?_,x,y,z,?_⟩
 ·have q:=a.1 c u n e;rw [qe (qj q hl)];exact q
 ·rw [qe (qj hp hl)];exact hp
inductive spTake (vs:List V) (H:Hp) (Q:VK) (E:XK):Prop|mk (p:Addr) (m:Int) (_:vs=[.ref p,.int m]) (_:Box H p) (_:0 < m) (_:m < 1073741824) (_:∀ (r:Int) (H':Hp),0<=r->r < m->BB p H H'->Q (.int r) H')
inductive spCell (K:W.Frag) (vs:List V) (H:Hp) (Q:VK) (E:XK):Prop|mk (a:Addr) (ns:List Int) (k:Int) (_:vs=[.ref a,.int k]) (_:SqL K H a (ns.map V.int)) (_:0<=k) (_:k < 1000) (_:∀ i:Int,Q (.int i) H)
inductive spBox (vs:List V) (H:Hp) (Q:VK) (E:XK):Prop|mk (i:Int) (_:vs=[.int i]) (_:∀ (p:Addr) (a b c:Int),H p=none->Q (.ref p) (upd H p (.lst [.int a,.int b,.int c])))
theorem BB.apart (a:BB p H H1) (hl:H1 l=none):l≠p:=fun e=>by subst e;obtain ⟨_,_,_,z⟩:=a.2;rw [z] at hl;cases hl
theorem BB.free (a:BB p H H1) (hl:H1 l=none):H l=none:=by
 cases q:H l with
 | none=>rfl
 | some o=>rw [a.1 l o (a.apart hl) q] at hl;cases hl
theorem BB.put (a:BB p H H1) (hl:H l=none) (np:l≠p):BB p H (upd H1 l o):=by
 obtain ⟨x,y,z,hp⟩:=a.2;exact ⟨fun c u n e=>by rw [qe (qj e hl)];exact a.1 c u n e,x,y,z,by rw [qe np.symm];exact hp⟩
theorem BB.same (a:BB p H H1) (s:L2.Same H1 H2):BB p H H2:=by
 obtain ⟨x,y,z,hp⟩:=a.2;exact ⟨fun c u n e=>s c u (a.1 c u n e),x,y,z,s _ _ hp⟩
theorem cut_mem {lo hi:Option Int} {y:V} (h:y∈qbG xs lo hi):y∈xs:=by
 unfold qbG at h;exact List.mem_of_mem_drop (List.mem_of_mem_take h)
noncomputable def NewH (H H':Hp):Hp:=fun a=>match H a with | none=>H' a | some _=>none
theorem ze:∀ {l m:List Str},l.Nodup->(∀ x∈l,x∈m)->l.length<=m.length
 | [],_,_,_=>YC _
 | x::r,m,hn,h=>by
  obtain ⟨h1,h2⟩:=yo.mp hn;have hx:=h x yL;have ih:=ze (l:=r) (m:=m.erase x) h2 fun y hy=>(XA (fun e=>h1 (by rw [<- e];exact hy))).mpr (h y (yA _ hy));rw [YX hx] at ih;have:0 < m.length:=Y6 hx;simp only [yC];omega
theorem qdK (c:Str) (ss:List Str):inV (.str c) (ss.map V.str)=decide (c∈ss):=by
 unfold inV;rw [List.any_map,Yq,Yn,yY];constructor
 ·rintro ⟨y,hy,e⟩;have:y=c:=eq_of_beq e;rw [<- this];exact hy
 ·intro h;exact ⟨c,h,Y9 c⟩
theorem flat_strs (ss:List Str):(ss.map V.str).all zQ=true:=by rw [kF];exact YV.mpr fun _ _=>rfl
inductive spFresh (vs:List V) (H:Hp) (Q:VK) (E:XK):Prop|mk (l:Addr) (ss:List Str) (_:vs=[.ref l]) (_:H l=some (.lst (ss.map V.str))) (_:ss.length<=14) (_:∀ (x:Str) (H':Hp),L2.Same H H'->zu x=true->x∉ss->Q (.str x) H')
noncomputable def signs:List Str:=("abcdefghijklmno":Str).cps.toList.map fun c=>⟨#[c]⟩
theorem qaH (a b:Str):(a++b).cps.toList=a.cps.toList++b.cps.toList:=by
 show (a.cps++b.cps).toList=_;exact Array.toList_append
theorem qc1:∀ {xs:List Str},(∀ x∈xs,x.cps.toList.all sg=true)->(Str.join "" xs).cps.toList.all sg=true
 | [],_=>rfl
 | [x],h=>h x (by simp)
 | x::y::r,h=>by
  have e:Str.join "" (x::y::r)=x++""++Str.join "" (y::r):=rfl;rw [e,qaH,qaH,XJ,XJ,h x (by simp),qc1 fun z hz=>h z (yA _ hz)]
  decide +kernel
theorem qeP {c:Nat} (h:97<=c) (h2:c<=122):sg c=true:=by
 have key:∀ i,i < 26->sg (97 + i)=true:=by decide +kernel
 have:=key (c - 97) (by omega)
 rwa [show 97 + (c - 97)=c by omega] at this
theorem join_len {xs:List Str} (h:∀ x∈xs,x.length=1):(Txt.join "" xs).length=xs.length:=by
 have e:Txt.join "" xs=Str.join "" xs:=Ym.mp (join_plain_closes "" xs);rw [e]
 cases xs with
 | nil=>rfl
 | cons a l =>
  rw [len_join_cons]
  have key:∀ l:List Str,(∀ x∈l,x.length=1)->(l.map (·.length)).sum=l.length:=by
   intro l
   induction l with
   | nil=>intro _;rfl
   | cons a l ih =>
    intro h;rw [Yy,List.sum_cons,h a yL,ih fun x hx=>h x (yA _ hx),yC];omega
  have z:("":Str).length=0:=by decide +kernel
  rw [key _ h,z];omega
theorem qc2 {xs:List Str} (h:∀ x∈xs,x.length=1):(xs.map (·.length)).sum=xs.length:=by
 induction xs with
 | nil=>rfl
 | cons a l ih =>
  rw [Yy,List.sum_cons,h a yL,ih fun x hx=>h x (yA _ hx),yC];omega
noncomputable def Signs (p:Addr) (H:Hp) (i:Nat) (ys:List V) (H':Hp):Prop:=BB p H H'/\∃ xs:List Str,ys=xs.map V.str/\xs.length=i/\∀ x∈xs,x.length=1/\x.cps.toList.all sg=true
theorem Signs.start (h:Box H p):Signs p H 0 [] H:=⟨BB.refl h,[],rfl,rfl,fun _ h=>by cases h⟩
theorem Signs.more {c:Nat} (h:Signs p H i ys H1) (b:BB p H1 H2) (hc:sg c=true):Signs p H (i + 1) (ys++[.str ⟨#[c]⟩]) H2:=by
 obtain ⟨hb,xs,rfl,hl,h1⟩:=h;refine ⟨hb.trans b,xs++[⟨#[c]⟩],by rw [yG];rfl,by rw [yt,hl];rfl,fun x hx=>?_⟩;rcases yz.mp hx with z | z
 ·exact h1 x z
 ·rw [yB.mp z];exact ⟨rfl,by simp [hc]⟩
theorem Signs.len (h:Signs p H i ys H1):ys.length=i:=by
 obtain ⟨_,xs,rfl,hl,_⟩:=h;rw [ya,hl]
noncomputable def L26:Str:="abcdefghijklmnopqrstuvwxyz"
theorem L26_at {i:Int} (h0:0<=i) (h1:i < 26):atI L26.cps.toList i=some (97 + i.toNat):=by
 obtain ⟨n,rfl⟩:=YN h0;have key:∀ n,n < 26->L26.cps.toList[n]?=some (97 + n):=by decide +kernel
 rw [Yb];exact qA (key n (by omega))
theorem nameS_of {x:Str} {l:List Nat} (e:x.cps.toList=l) (h1:1<=l.length) (h6:l.length<=6) (h:l.all sg=true):zu x=true:=by
 have hl:x.length=l.length:=by rw [<- e];simp [Str.length]
 unfold zu;rw [yE ⟨by omega,by omega⟩,e];exact h
theorem nodup_key (h:∀ (i j:Nat) (s:Str),ss[i]?=some s->ss[j]?=some s->i=j):ss.Nodup:=by
 refine YS.mpr fun i j hi hj hij e=>?_;have:=h i j ss[j] (by rw [yb hi,e]) (yb hj);omega
noncomputable def NL (p:Addr) (H':Hp) (l:Addr) (ss:List Str):Prop:=H' l=some (.lst (ss.map V.str))/\l≠p
structure NOk (ss:List Str):Prop where
 few:ss.length<=14
 nd:ss.Nodup
 nm:∀ s∈ss,zu s=true
noncomputable def PrT (p:Addr) (H:Hp) (t:Addr) (ab:Str×Str):Prop:=t≠p/\H t=some (.tup [.str ab.1,.str ab.2])
noncomputable def TL (p:Addr) (H:Hp) (l:Addr) (ts:List Addr) (tps:List (Str×Str)):Prop:=H l=some (.lst (ts.map V.ref))/\l≠p/\All2 (PrT p H) ts tps
structure TOk (ss:List Str) (tps:List (Str×Str)):Prop where
 few:tps.length<=30
 ok:∀ ab∈tps,∃ j k:Nat,j < k/\ss[j]?=some ab.1/\ss[k]?=some ab.2
 nd:tps.Nodup
inductive spTies (vs:List V) (H:Hp) (Q:VK) (E:XK):Prop|mk (p n:Addr) (ss:List Str) (_:vs=[.ref p,.ref n]) (_:Box H p) (_:NL p H n ss) (_:NOk ss) (_:∀ (l:Addr) (ts:List Addr) (tps:List (Str×Str)) (H':Hp),BB p H H'->H l=none->TL p H' l ts tps->TOk ss tps->Q (.ref l) H')
noncomputable def Shuf (tps ups:List (Str×Str)):Prop:=∃ qps,ups.Perm qps/\All2 (fun a b=>b=a\/b=(a.2,a.1)) tps qps
inductive spShuf (vs:List V) (H:Hp) (Q:VK) (E:XK):Prop|mk (p l:Addr) (ts:List Addr) (tps:List (Str×Str)) (_:vs=[.ref p,.ref l]) (_:Box H p) (_:TL p H l ts tps) (_:tps.length<=30) (_:∀ (l':Addr) (us:List Addr) (ups:List (Str×Str)) (H':Hp),BB p H H'->H l'=none->TL p H' l' us ups->Shuf tps ups->Q (.ref l') H')
theorem pair_eqD {a b:Addr} {t s' t':Str} (hb:H b=some (.tup [.str s',.str t'])) (ha:H a=some (.tup [.str s,.str t])):EqD K H 1 (.ref b) (.ref a) (decide ((s',t')=(s,t))):=by
 by_cases e:b=a
 ·subst e;rw [hb] at ha;cases ha;rw [yI rfl];exact .self
 ·have z:=EqT.tup (K:=K) (H:=H) (n:=0) (e:=fun j=>if j=0 then eqV (.str s') (.str s) else eqV (.str t') (.str t)) (SqT.of hb) (SqT.of ha) fun j x y hx hy=>by
   match j,hx,hy with
   | 0,hx,hy=>cases hx;cases hy;exact .flat rfl rfl
   | 1,hx,hy=>cases hx;cases hy;exact .flat rfl rfl
  have ev:((List.range (min [V.str s',V.str t'].length [V.str s,V.str t].length)).all (fun j=>if j=0 then eqV (.str s') (.str s) else eqV (.str t') (.str t))&&[V.str s',V.str t'].length==[V.str s,V.str t].length)=decide ((s',t')=(s,t)):=by
   show ((s'==s)&&((t'==t)&&true)&&true)=_;rw [Yq];simp
  rw [ev] at z;exact .deep z e
noncomputable def qdd (H:Hp) (z:V):Option (Str×Str):=match z with
 | .ref t=>(match H t with
  | some (.tup [.str a,.str b])=>some (a,b)
  | _=>none)
 | _=>none
theorem qbz {t:Addr} (h:H t=some (.tup [.str a,.str b])):qdd H (.ref t)=some (a,b):=by
 unfold qdd;dsimp only;rw [h]
theorem any_in (h:All2 (fun t ab=>H t=some (.tup [.str ab.1,.str ab.2])) ts tps) (st:Str×Str):((ts.map V.ref).any fun z=>decide (qdd H z=some st))=decide (st∈tps):=by
 rw [Yq,Yn,yY];constructor
 ·rintro ⟨z,hz,e⟩;obtain ⟨t,ht,rfl⟩:=Yd.mp hz;obtain ⟨ab,hab,r⟩:=h.mem ht;have e:=yk e;rw [qbz r] at e;cases e;exact hab
 ·intro hm;obtain ⟨k,hk,e⟩:=xv hm;have hk':k < ts.length:=by rw [h.len];exact hk
  have r:=h.at_ k ts[k] tps[k] (yb hk') (yb hk);refine ⟨.ref ts[k],Yd.mpr ⟨_,YO hk',rfl⟩,yI ?_⟩;rw [qbz r,e]
theorem pl_in {a:Addr} {t:Str} {Q:VK} (h:PL H l ts tps) (ha:H a=some (.tup [.str s,.str t])) (q:Q (.bl (decide ((s,t)∈tps))) H):qd2 K false (.ref a) (.ref l) H Q:=by
 refine .inr (.inr ⟨l,ts.map V.ref,fun z=>decide (qdd H z=some (s,t)),1,rfl,SqL.of h.1,by decide,fun z hz=>?_,?_⟩)
 ·obtain ⟨b,hb,rfl⟩:=Yd.mp hz;obtain ⟨ab,_,r⟩:=h.2.mem hb;have e:=pair_eqD (K:=K) r ha
  have ee:decide (qdd H (.ref b)=some (s,t))=decide ((ab.1,ab.2)=(s,t)):=by
   rw [qbz r];apply Ys.mpr;rw [Option.some.injEq]
  show EqD K H 1 (.ref b) (.ref a) (decide (qdd H (.ref b)=some (s,t)));rw [ee];exact e
 ·rw [any_in h.2];exact q
noncomputable def Adj (ss:List Str) (ns:List Nat) (tps:List (Str×Str)):Prop:=∀ a b s t,ss[a]?=some s->ss[b]?=some t->((ns.getD a 0).testBit b=true↔((s,t)∈tps\/(t,s)∈tps))
theorem KE:FnScope ["web","thing","paired","tie"] ["web","thing"] (qh zn):=fS
theorem K7:FnScope ["self","thing"] ["self","thing"] (qh jP):=fS
noncomputable def qbA (seen:List Str):List (Key×V):=seen.map fun s=>(.inr s,.bl true)
theorem zB (y:Str):∀ seen:List Str,(jJ (qbA seen) (.inr y:Key)).isSome=decide (y∈seen)
 | []=>rfl
 | s::r=>by
  by_cases e:s=y
  ·subst e;show (jJ (((.inr s:Key),V.bl true)::qbA r) _).isSome=_;rw [yI (by simp)];simp [jJ]
  ·show (jJ (((.inr s:Key),V.bl true)::qbA r) _).isSome=_;rw [qT (p:=((.inr s:Key),V.bl true)) (fun z=>e (Y7 z)),zB y r];apply Ys.mpr;simp [Ye e]
theorem qbB {seen:List Str} (h:y∉seen):j9 (qbA seen) (.inr y:Key) (.bl true)=qbA (seen++[y]):=by
 have:jJ (qbA seen) (.inr y:Key)=none:=by
  have:=zB y seen;rw [yl h] at this;exact Option.isNone_iff_eq_none.mp (by rw [<- Option.not_isSome,this];rfl)
 rw [qag _ this];unfold qbA;rw [yG];rfl
noncomputable def qu (qs:List (Str×Str)):List Str:=qs.flatMap fun q=>[q.1,q.2]
noncomputable def prK (qs:List (Str×Str)):List (Key×V):=qs.flatMap fun q=>[(.inr q.1,.str q.2),(.inr q.2,.str q.1)]
noncomputable def pt:List (Str×Str)->Str->Option Str
 | [],_=>none
 | q::r,s=>if q.1=s then some q.2 else if q.2=s then some q.1 else pt r s
theorem jD (s:Str):∀ qs,jJ (prK qs) (.inr s:Key)=(pt qs s).map V.str
 | []=>rfl
 | q::r=>by
  show jJ (((.inr q.1:Key),V.str q.2)::((.inr q.2:Key),V.str q.1)::prK r) _=(pt (q::r) s).map V.str;unfold pt;by_cases h1:q.1=s
  ·rw [jf (p:=((.inr q.1:Key),V.str q.2)) (congrArg Sum.inr h1),yE h1];rfl
  ·rw [qT (p:=((.inr q.1:Key),V.str q.2)) (fun z=>h1 (Y7 z)),yy h1];by_cases h2:q.2=s
   ·rw [jf (p:=((.inr q.2:Key),V.str q.1)) (congrArg Sum.inr h2),yE h2];rfl
   ·rw [qT (p:=((.inr q.2:Key),V.str q.1)) (fun z=>h2 (Y7 z)),yy h2,jD s r]
theorem pt_none:∀ {qs:List (Str×Str)},pt qs s=none↔s∉qu qs
 | []=>by simp [pt,qu]
 | q::r=>by
  have e:qu (q::r)=q.1::q.2::qu r:=rfl;rw [e];unfold pt;by_cases h1:q.1=s
  ·rw [yE h1];simp [h1]
  ·rw [yy h1];by_cases h2:q.2=s
   ·rw [yE h2];simp [h2]
   ·rw [yy h2,pt_none];simp only [yx,not_or];exact ⟨fun z=>⟨Ye h1,Ye h2,z⟩,fun z=>z.2.2⟩
structure PGo (ss:List Str) (tps qs:List (Str×Str)):Prop where
 inn:∀ q∈qs,(q∈tps\/(q.2,q.1)∈tps)/\q.1∈ss/\q.2∈ss/\q.1≠q.2
 nd:(qu qs).Nodup
 few:qs.length<=30
theorem zY (qs:List (Str×Str)):(qu qs).length=2 * qs.length:=by
 induction qs with
 | nil=>rfl
 | cons q r ih=>show (q.1::q.2::qu r).length=_;simp only [yC];omega
theorem zC (qs:List (Str×Str)) (q:Str×Str):qu (qs++[q])=qu qs++[q.1,q.2]:=by
 unfold qu;rw [Xa];rfl
theorem PGo.new (g:PGo ss tps qs) (h:qs[i]?=some ab):qs.take (i + 1)=qs.take i++[ab]/\(qu (qs.take i++[ab])).Nodup/\ab.1∉qu (qs.take i)/\ab.2∉qu (qs.take i):=by
 have htk:qs.take (i + 1)=qs.take i++[ab]:=by rw [yQ,h];rfl
 have hnd:(qu (qs.take i++[ab])).Nodup:=by
  rw [<- htk];have:qu qs=qu (qs.take (i + 1))++qu (qs.drop (i + 1)):=by unfold qu;rw [<- Xa,List.take_append_drop]
  have hn:=g.nd;rw [this] at hn;exact (yX.mp hn).1
 have h3:=hnd;rw [zC] at h3;have h4:=(yX.mp h3).2.2;exact ⟨htk,hnd,fun z=>h4 _ z ab.1 (by simp) rfl,fun z=>h4 _ z ab.2 (by simp) rfl⟩
inductive spHt (cw:Addr) (vs:List V) (H:Hp) (Q:VK) (E:XK):Prop|mk (x t:Addr) (ss:List Str) (ns:List Nat) (tps:List (Str×Str)) (ab:Str×Str) (_:vs=[.ref x,.ref t]) (_:WebAt cw H x ss ns) (_:Adj ss ns tps) (_:H t=some (.tup [.str ab.1,.str ab.2])) (_:(ab∈tps\/(ab.2,ab.1)∈tps)) (_:ab.1∈ss) (_:ab.2∈ss) (_:ab.1≠ab.2) (_:∀ H',L2.Same H H'->Q (.bl true) H')
inductive spAp (cw:Addr) (vs:List V) (H:Hp) (Q:VK) (E:XK):Prop|mk (x l:Addr) (ss:List Str) (ns:List Nat) (us:List Addr) (tps qs:List (Str×Str)) (_:vs=[.ref x,.ref l]) (_:WebAt cw H x ss ns) (_:Adj ss ns tps) (_:PL H l us qs) (_:PGo ss tps qs) (_:∀ H',L2.Same H H'->Q (.bl true) H')
theorem ok_ht (F:Fun K "has_tie" "Web.has_tie" jP f fd) (T:Txt K mg cc cw) (Kk:DefOk P w K mg base CX0 3 "are_two_places" ["numbers","thing"] spTwo) (uv:MethOk P w K mg base CX0 6 cw "tied" ["self","one","other"] (spTied cw)):FnOk P w K mg base CX0 7 f fd ["self","thing"] (spHt cw):=by
 refine F.ok K7 fun _ _ _ _ H vs Q E hr h=>?_
 ·obtain ⟨x,t,ss,ns,tps,ab,rfl,hW,hA,et,hab,m1,m2,hne,q⟩:=h;have hu:=za hr;obtain ⟨wx,dd,ol,nn,hb,hdd,hol,hnn,hw⟩:=id hW;refine ⟨_,(qf (qm (qbK (qt Kk (hmR hr) qF (qa (qB (K:=K) rfl (pv 0) rfl) (qa (pv 1) qd))) (qbJ (qG uv (hmR hr) (pv 0) (qa (qx (qy (K:=K) rfl hu) (pv 1) qg (fun _ _=>rfl)) (qa (qx (qy (K:=K) rfl hu) (pv 1) qg (fun _ _=>rfl)) qd))))))),?_⟩;ext;refine .inl ⟨x,cw,wx,_,.ref dd,rfl,hb,T.wcl,T.wn,jU,?_⟩;ext;refine ⟨dd,t,ss,ab.1,ab.2,rfl,hdd,et,hw.nm _ m1,hw.nm _ m2,m1,m2,hne,fun H1 s1=>?_⟩;refine ⟨true,rfl,qai ?_⟩;have et1:=s1 _ _ et;ext;refine ⟨x,wx,_,rfl,s1 _ _ hb,jY (by decide +kernel),?_⟩;ext;refine .inl (qaY et1 (v:=.str ab.1) (qA (j:=0) rfl) ?_);ext;refine .inl (qaY et1 (v:=.str ab.2) (qA (j:=1) rfl) ?_);ext;obtain ⟨j,gj⟩:=yf m1;obtain ⟨i,gi⟩:=yf m2;refine ⟨x,ss,ns,ab.1,ab.2,j,i,rfl,hW.same s1,gj,gi,fun H2 s2=>?_⟩;rw [(hA j i ab.1 ab.2 gj gi).mpr hab];exact q H2 (s1.trans s2)
theorem ok_ap (F:Fun K "are_pairs" "are_pairs" zn f fd) (T:Txt K mg cc cw) (Kz:MethOk P w K mg base CX0 7 cw "has_tie" ["self","thing"] (spHt cw)):FnOk P w K mg base CX0 8 f fd ["web","thing"] (spAp cw):=by
 refine F.ok KE fun _ _ _ _ H vs Q E hr h=>?_
 ·obtain ⟨x,l,ss,ns,us,tps,qs,rfl,hW,hA,⟨hl,hal⟩,g,q⟩:=h;have hu:=za hr;obtain ⟨wx,dd,ol,nn,hb,_⟩:=id hW;have few:=g.few;have hul:=hal.len;refine ⟨_,(qc (qP (jd (qX (qk (qam (K:=K) rfl) rfl T.b_isinstance YF (qa (pv 1) (qa (jB (v:=.ty "list") rfl T.b_list xN rfl) qd))))) (qf (qm jW)) qv)
 (qc (qo (i:=2) KE.nd rfl (yJ rfl) j0)
 (qc (q9 yP rfl (jg (K:=K) rfl (pv 1)) (qr (i:=3) KE.nd rfl (yJ rfl))
 (qc (qP (PW.pt (qaA (jd (qX (qG Kz (hmR hr) (pv 0) (qa (pv 3) qd)))) (qaA (qp (zW (K:=K) rfl hu) (qx (qy (K:=K) rfl hu) (pv 3) qg (fun _ _=>rfl)) (pv 2) (by with_unfolding_all rfl)) (qab (qp (zW (K:=K) rfl hu) (qx (qy (K:=K) rfl hu) (pv 3) qg (fun _ _=>rfl)) (pv 2) (by with_unfolding_all rfl)))))) (qf (qm jW)) qv)
 (qc (jG jW (jL (pv 2) (qx (qy (K:=K) rfl hu) (pv 3) qg (fun _ _=>rfl)) (jM hu)))
 (qf (jG jW (jL (pv 2) (qx (qy (K:=K) rfl hu) (pv 3) qg (fun _ _=>rfl)) (jM hu)))))))
 (qf (qm jW))))),?_⟩
  ext;refine qbw (.inl (.lst hl)) rfl (zl K "list" (by simp) "list" (by simp)) ?_;ext;refine yq ?_;ext;intro d hd;have s0:=qL (Sr H) (o:=.dK []) hd;have ed:upd H d (.dK []) d=some (.dK (qbA [])):=qb;generalize upd H d (.dK [])=H1 at s0 ed;ext;refine .inl ⟨⟨_,.of (s0 _ _ hl)⟩,jj (xs:=us.map V.ref) (fun i σ J=>L2.Same H J/\∃ y3,σ=[some (.ref x),some (.ref l),some (.ref d),y3]/\J d=some (.dK (qbA (qu (qs.take i))))) ⟨s0,_,rfl,ed⟩ (fun i σ J _ hp=>.of (hp.1 _ _ hl)) (fun i y σ J hy hp=>?_) fun σ J hp=>?_⟩
  ·obtain ⟨sJ,y3,rfl,edJ⟩:=hp;rw [yd] at hy;obtain ⟨b,hb',rfl⟩:=yn.mp hy;have hi:i < us.length:=(yc.mp hb').1;obtain ⟨ab,hab⟩:∃ ab,qs[i]?=some ab:=⟨_,yb (by rw [<- hul];exact hi)⟩;have eb:=hal.at_ i b ab hb' hab;obtain ⟨ht,m1,m2,hne⟩:=g.inn ab (ye hab);obtain ⟨htk,hnd,n1,n2⟩:=g.new hab;have hsl:(qu (qs.take i)).length<=60:=by rw [zY,yR];omega
   have hbd:b≠d:=fun z=>by rw [z,hd] at eb;cases eb
   ext;refine ⟨x,wx,_,rfl,sJ _ _ hb,jY (by decide +kernel),?_⟩;ext;refine ⟨x,b,ss,ns,tps,ab,rfl,hW.same sJ,hA,sJ _ _ eb,ht,m1,m2,hne,fun J2 s2=>?_⟩;have s02:=sJ.trans s2;have eb2:=s02 _ _ eb;ext;refine yq ?_;ext;refine .inl (qaY eb2 (v:=.str ab.1) (qA (j:=0) rfl) ?_);ext;refine .inr (.inl ⟨d,_,rfl,DGet.k (k:=Sum.inr ab.1) (s2 _ _ edJ),?_⟩);rw [yy (by decide),zB,yl n1];ext;refine yq ?_;ext;refine .inl (qaY eb2 (v:=.str ab.2) (qA (j:=1) rfl) ?_);ext;refine .inr (.inl ⟨d,_,rfl,DGet.k (k:=Sum.inr ab.2) (s2 _ _ edJ),?_⟩);rw [yy (by decide),zB,yl n2];ext;refine yq ?_;ext;refine .inl (qaY eb2 (v:=.str ab.1) (qA (j:=0) rfl) ?_);ext;refine .inr ⟨d,_,rfl,DPut.k (k:=Sum.inr ab.1) (s2 _ _ edJ) (by unfold qbA;rw [ya,Yx];omega),?_⟩;rw [qbB n1];have s3:=qaa s02 (o:=.dK (qbA (qu (qs.take i)++[ab.1]))) hd;have e3:upd J2 d (.dK (qbA (qu (qs.take i)++[ab.1]))) d=some (.dK (qbA (qu (qs.take i)++[ab.1]))):=qb;have eb3:upd J2 d (.dK (qbA (qu (qs.take i)++[ab.1]))) b=some (.tup [.str ab.1,.str ab.2]):=by rw [qe hbd];exact eb2
   generalize upd J2 d (.dK (qbA (qu (qs.take i)++[ab.1])))=J3 at s3 e3 eb3;ext;refine .inl (qaY eb3 (v:=.str ab.2) (qA (j:=1) rfl) ?_);ext;refine .inr ⟨d,_,rfl,DPut.k (k:=Sum.inr ab.2) e3 (by unfold qbA;rw [ya,yt,Yx];simp only [yC,xm];omega),?_⟩;rw [qbB (fun z=>by rcases yz.mp z with z | z;exact n2 z;exact hne (yB.mp z).symm)];exact ⟨qaa s3 hd,_,rfl,by rw [qb,htk,zC,Yc];rfl⟩
  ·obtain ⟨sJ,y3,rfl,edJ⟩:=hp;ext;exact q J sJ
theorem Ks:FnScope ["web","pairs","partners","pair"] ["web","pairs"] (qh jQ):=fS
theorem prK_len (qs:List (Str×Str)):(prK qs).length=2 * qs.length:=by
 induction qs with
 | nil=>rfl
 | cons q r ih=>show (_::_::prK r).length=_;simp only [yC];rw [ih];omega
theorem prK_snoc (qs:List (Str×Str)) (q:Str×Str):prK (qs++[q])=prK qs++[(.inr q.1,.str q.2),(.inr q.2,.str q.1)]:=by
 unfold prK;rw [Xa];rfl
theorem prK_put {q:Str×Str} (h:(qu (qs++[q])).Nodup):j9 (j9 (prK qs) (.inr q.1:Key) (.str q.2)) (.inr q.2:Key) (.str q.1)=prK (qs++[q]):=by
 rw [zC] at h;obtain ⟨h1,h2,h3⟩:=yX.mp h;have n1:q.1∉qu qs:=fun z=>h3 _ z _ (by simp) rfl;have n2:q.2∉qu qs:=fun z=>h3 _ z q.2 (by simp) rfl;have n3:q.1≠q.2:=by simp at h2;exact h2
 have v1:jJ (prK qs) (.inr q.1:Key)=none:=by rw [jD,pt_none.mpr n1];rfl
 rw [qag _ v1]
 have v2:jJ (prK qs++[((.inr q.1:Key),V.str q.2)]) (.inr q.2:Key)=none:=by
  have v2:jJ (prK qs) (.inr q.2:Key)=none:=by rw [jD,pt_none.mpr n2];rfl
  unfold jJ at v2 ⊢;rw [List.find?_append];have:(prK qs).find? (fun kv=>decide (kv.1=(.inr q.2:Key)))=none:=by simpa using v2
  rw [this];simp [n3]
 rw [qag _ v2,prK_snoc];simp
inductive spPn (cw:Addr) (vs:List V) (H:Hp) (Q:VK) (E:XK):Prop|mk (x l:Addr) (ss:List Str) (ns:List Nat) (us:List Addr) (tps qs:List (Str×Str)) (_:vs=[.ref x,.ref l]) (_:WebAt cw H x ss ns) (_:Adj ss ns tps) (_:PL H l us qs) (_:PGo ss tps qs) (_:∀ (d:Addr) (H':Hp),L2.Same H H'->H d=none->H' d=some (.dK (prK qs))->Q (.ref d) H')
theorem ok_pn (F:Fun K "partners_in" "partners_in" jQ f fd) (T:Txt K mg cc cw) (um:DefOk P w K mg base CX0 8 "are_pairs" ["web","thing"] (spAp cw)):FnOk P w K mg base CX0 9 f fd ["web","pairs"] (spPn cw):=by
 refine F.ok Ks fun _ _ _ _ H vs Q E hr h=>?_
 ·obtain ⟨x,l,ss,ns,us,tps,qs,rfl,hW,hA,⟨hl,hal⟩,g,q⟩:=h;have hu:=za hr;have few:=g.few;have hul:=hal.len;refine ⟨_,(qc (qP (jd (qX (qt um (hmR hr) qF (qa (pv 0) (qa (pv 1) qd))))) (qf jv) qv)
 (qc (qo (i:=2) Ks.nd rfl (yJ rfl) j0)
 (qc (q9 yP rfl (jg (K:=K) rfl (pv 1)) (qr (i:=3) Ks.nd rfl (yJ rfl))
 (qc (jG (qx (qy (K:=K) rfl hu) (pv 3) qg (fun _ _=>rfl)) (jL (pv 2) (qx (qy (K:=K) rfl hu) (pv 3) qg (fun _ _=>rfl)) (jM hu)))
 (qf (jG (qx (qy (K:=K) rfl hu) (pv 3) qg (fun _ _=>rfl)) (jL (pv 2) (qx (qy (K:=K) rfl hu) (pv 3) qg (fun _ _=>rfl)) (jM hu))))))
 (qf (qm (pv 2)))))),?_⟩
  ext;refine ⟨x,l,ss,ns,us,tps,qs,rfl,hW,hA,⟨hl,hal⟩,g,fun H1 s1=>?_⟩;ext;refine yq ?_;ext;intro d hd;have hdH:=s1.free hd;have s2:=qL s1 (o:=.dK []) hd;have ed:upd H1 d (.dK []) d=some (.dK (prK [])):=qb;generalize upd H1 d (.dK [])=H2 at s2 ed;ext;refine .inl ⟨⟨_,.of (s2 _ _ hl)⟩,jj (xs:=us.map V.ref) (fun i σ J=>L2.Same H J/\∃ y3,σ=[some (.ref x),some (.ref l),some (.ref d),y3]/\J d=some (.dK (prK (qs.take i)))) ⟨s2,_,rfl,ed⟩ (fun i σ J _ hp=>.of (hp.1 _ _ hl)) (fun i y σ J hy hp=>?_) fun σ J hp=>?_⟩
  ·obtain ⟨sJ,y3,rfl,edJ⟩:=hp;rw [yd] at hy;obtain ⟨b,hb',rfl⟩:=yn.mp hy;have hi:i < us.length:=(yc.mp hb').1;obtain ⟨ab,hab⟩:∃ ab,qs[i]?=some ab:=⟨_,yb (by rw [<- hul];exact hi)⟩;have eb:=hal.at_ i b ab hb' hab;obtain ⟨htk,hnd,n1,n2⟩:=g.new hab;have hbd:b≠d:=fun z=>by rw [z,hdH] at eb;cases eb
   have ebJ:=sJ _ _ eb;have hl3:(prK (qs.take i)).length<=2000:=by rw [prK_len,yR];omega
   ext;refine .inl (qaY ebJ (v:=.str ab.2) (qA (j:=1) rfl) ?_);ext;refine .inl (qaY ebJ (v:=.str ab.1) (qA (j:=0) rfl) ?_);ext;refine .inr ⟨d,_,rfl,DPut.k (k:=Sum.inr ab.1) edJ (by rw [Yx];omega),?_⟩;have s3:=qaa sJ (o:=.dK (j9 (prK (qs.take i)) (Sum.inr ab.1) (.str ab.2))) hdH;have e3:upd J d (.dK (j9 (prK (qs.take i)) (Sum.inr ab.1) (.str ab.2))) d=some (.dK (j9 (prK (qs.take i)) (Sum.inr ab.1) (.str ab.2))):=qb;have eb3:upd J d (.dK (j9 (prK (qs.take i)) (Sum.inr ab.1) (.str ab.2))) b=some (.tup [.str ab.1,.str ab.2]):=by rw [qe hbd];exact ebJ
   generalize upd J d (.dK (j9 (prK (qs.take i)) (Sum.inr ab.1) (.str ab.2)))=J3 at s3 e3 eb3;ext;refine .inl (qaY eb3 (v:=.str ab.1) (qA (j:=0) rfl) ?_);ext;refine .inl (qaY eb3 (v:=.str ab.2) (qA (j:=1) rfl) ?_);ext;refine .inr ⟨d,_,rfl,DPut.k (k:=Sum.inr ab.2) e3 ?_,?_⟩
   ·have:=jt (prK (qs.take i)) (Sum.inr ab.1:Key) (.str ab.2);rw [Yx];omega
   ·exact ⟨qaa s3 hdH,_,rfl,by rw [qb,prK_put hnd,htk]⟩
  ·obtain ⟨sJ,y3,rfl,edJ⟩:=hp;rw [ya,hul,yV] at edJ;ext;exact q d J sJ hdH edJ
structure Gr (A:Str->Str->Prop) (f:Str->Option Str):Prop where
 as:∀ {a b},A a b->A b a
 ir:∀ {a b},A a b->a≠b
 fs:∀ {a b},f a=some b->f b=some a
 fa:∀ {a b},f a=some b->A a b
structure FS where
 rows:Str->Option (List Str)
 par:Str->Option Str
 bas:Str->Str
noncomputable def Turns (A:Str->Str->Prop) (f:Str->Option Str) (r:List Str):Prop:=∀ (j:Nat) a b,r[j]?=some a->r[j + 1]?=some b->A a b/\(f a=some b↔j % 2=1)
structure Alt (A:Str->Str->Prop) (f:Str->Option Str) (r:List Str) (v:Str):Prop where
 nd:r.Nodup
 odd:r.length % 2=1
 hd:∀ s,r[0]?=some s->f s=none
 tl:∃ r0,r=r0++[v]
 st:Turns A f r
structure FI (A:Str->Str->Prop) (f:Str->Option Str) (S:FS):Prop where
 alt:∀ v r,S.rows v=some r->Alt A f r v
 bse:∀ v r,S.rows v=some r->∃ rb t,S.rows (S.bas v)=some rb/\r=rb++t/\∀ u∈t,S.bas u=S.bas v
 idm:∀ v r,S.rows v=some r->S.bas (S.bas v)=S.bas v
 dwn:∀ b r q,S.rows b=some r->S.bas b=b->f b=some q->S.rows q=none/\∃ z rz,S.par q=some z/\S.rows z=some rz/\r=rz++[q,b]
 mat:∀ v,S.bas v≠v->(∃ r,S.rows v=some r)/\∃ u,f v=some u/\S.bas u=S.bas v
 odd:∀ x z,S.par x=some z->A z x/\(∃ r,S.rows z=some r)/\∃ y r,f x=some y/\S.rows y=some r
section
variable {A:Str->Str->Prop} {f:Str->Option Str} {S:FS}
theorem FI.own (I:FI A f S) (h:S.rows v=none):S.bas v=v:=Yz fun z=>by
 obtain ⟨⟨r,e⟩,_⟩:=I.mat v z;rw [h] at e;cases e
theorem FI.evb (I:FI A f S) (h:S.rows v=some r):∃ rb,S.rows (S.bas v)=some rb:=(I.bse v r h).elim fun rb z=>⟨rb,z.elim fun _ y=>y.1⟩
theorem FI.pair (I:FI A f S) {w:Str} {s:List Str} (hv:S.rows v=some r) (hw:S.rows w=some s) (h:f v=some w):S.bas v=S.bas w:=by
 by_cases z:S.bas v=v
 ·have:=(I.dwn v r w hv z h).1;rw [hw] at this;cases this
 ·obtain ⟨_,u,hu,e⟩:=I.mat v z;rw [h] at hu;cases hu;exact e.symm
inductive Ch (f:Str->Option Str) (S:FS):Str->List Str->Prop
 | root {b:Str}:f b=none->Ch f S b [b]
 | step {b q z:Str} {l:List Str}:f b=some q->S.par q=some z->Ch f S (S.bas z) l->Ch f S b (b::l)
theorem Ch.one {l:List Str} (h:Ch f S b l):∀ {m},Ch f S b m->m=l:=by
 induction h with
 | root e=>intro m g;cases g with
  | root _=>rfl
  | step e' _ _=>rw [e] at e';cases e'
 | step e p _ ih=>intro m g;cases g with
  | root e'=>rw [e] at e';cases e'
  | step e' p' g'=>rw [e] at e';cases e';rw [p] at p';cases p';rw [ih g']
theorem Ch.ne {l:List Str} (h:Ch f S b l):∃ t,l=b::t:=by cases h<;>exact ⟨_,rfl⟩
theorem FI.chain (I:FI A f S):∀ (n:Nat) {b:Str} {r:List Str},r.length<=n->S.rows b=some r->S.bas b=b->∃ l,Ch f S b l
 | n,b,r,hn,hb,hbb=>by
  cases e:f b with
  | none=>exact ⟨_,.root e⟩
  | some q =>
   obtain ⟨_,z,rz,p,hz,er⟩:=I.dwn b r q hb hbb e;obtain ⟨rb,t,h1,h2,_⟩:=I.bse z rz hz;have hl:rb.length < n:=by rw [er,h2] at hn;simp at hn;omega
   match n,hl with
   | n + 1,hl =>
    obtain ⟨l,g⟩:=I.chain n (b:=S.bas z) (r:=rb) (by omega) h1 (I.idm z rz hz);exact ⟨_,.step e p g⟩
theorem FI.chainOf (I:FI A f S) (h:S.rows v=some r):∃ l,Ch f S (S.bas v) l:=by
 obtain ⟨rb,e⟩:=I.evb h;exact I.chain _ (yh _) e (I.idm v r h)
noncomputable def Cov (f:Str->Option Str) (S:FS) (l:List Str) (u:Str):Prop:=∃ d∈l,S.bas u=d\/f d=some u
theorem Cov.mono {l m:List Str} (h:Cov f S l u) (hs:∀ d∈l,d∈m):Cov f S m u:=h.elim fun d z=>⟨d,hs d z.1,z.2⟩
theorem Ch.up (I:FI A f S) {l:List Str} (h:Ch f S b l):∀ {v:Str} {r:List Str},S.rows v=some r->S.bas v=b->∀ {l1 l2:List Str} {c:Str},l=l1++c::l2->∃ rc t,S.rows c=some rc/\S.bas c=c/\Ch f S c (c::l2)/\r=rc++t/\∀ u∈t,S.bas u=c\/Cov f S l1 u:=by
 induction h with
 | root e =>
  intro v r hv hb l1 l2 c el
  cases l1 with
  | cons x y=>exact absurd (congrArg List.length el) (by simp)
  | nil =>
   cases el;obtain ⟨rb,t,h1,h2,h3⟩:=I.bse v r hv;rw [hb] at h1 h3;exact ⟨rb,t,h1,by rw [<- hb];exact I.idm v r hv,.root e,h2,fun u hu=>.inl (h3 u hu)⟩
 | @step b q z l e p g ih =>
  intro v r hv hb l1 l2 c el;obtain ⟨rb,t,h1,h2,h3⟩:=I.bse v r hv;rw [hb] at h1 h3;have hbb:S.bas b=b:=by rw [<- hb];exact I.idm v r hv
  cases l1 with
  | nil =>
   cases el;exact ⟨rb,t,h1,hbb,.step e p g,h2,fun u hu=>.inl (h3 u hu)⟩
  | cons x y =>
   cases el;obtain ⟨hq,z',rz,p',hz,er⟩:=I.dwn b rb q h1 hbb e;rw [p] at p';cases p';obtain ⟨rc,t',k1,k2,k3,k4,k5⟩:=ih hz rfl rfl;refine ⟨rc,t'++[q,b]++t,k1,k2,k3,by rw [h2,er,k4];simp,fun u hu=>?_⟩;rcases yz.mp hu with hu | hu
   ·rcases yz.mp hu with hu | hu
    ·exact (k5 u hu).imp id fun z=>z.mono fun d hd=>yA _ hd
    ·simp only [yx,y0,YU] at hu;rcases hu with rfl | rfl
     ·exact .inr ⟨b,yL,.inr e⟩
     ·exact .inr ⟨_,yL,.inl hbb⟩
   ·exact .inr ⟨b,yL,.inl (h3 u hu)⟩
theorem Ch.bs0 (I:FI A f S) {l:List Str} (hv:S.rows v=some r) (h:Ch f S (S.bas v) l) (hc:c∈l):∃ rc,S.rows c=some rc/\S.bas c=c:=by
 obtain ⟨l1,l2,e⟩:=Yk hc;obtain ⟨rc,_,h1,h2,_⟩:=h.up I hv rfl e;exact ⟨rc,h1,h2⟩
theorem Ch.cov (G:Gr A f) (I:FI A f S) {l:List Str} (hv:S.rows v=some r) (h:Ch f S (S.bas v) l) (hu:u∈r):Cov f S l u:=by
 have hl:l≠[]:=by obtain ⟨t,e⟩:=h.ne;rw [e];exact kA _ _
 obtain ⟨rc,t,h1,h2,h3,h4,h5⟩:=h.up I hv rfl (Y3 hl).symm;have hlast:l.getLast hl∈l:=List.getLast_mem hl;rw [h4] at hu;rcases yz.mp hu with hu | hu
 ·have hf:f (l.getLast hl)=none:=by
   cases h3 with
   | root e=>exact e
   | step _ _ g=>obtain ⟨_,e⟩:=g.ne;cases e
  have al:=I.alt _ _ h1;obtain ⟨r0,e0⟩:=al.tl
  have hr0:r0=[]:=by
   cases hr:r0.length with
   | zero=>exact List.eq_nil_of_length_eq_zero hr
   | succ n =>
    exfalso;have hlen:rc.length=n + 2:=by rw [e0];simp [hr]
    obtain ⟨a,ha⟩:∃ a,rc[n]?=some a:=⟨_,yb (by omega)⟩;have hb:rc[n + 1]?=some (l.getLast hl):=by rw [e0,yD (by omega),hr];simp
    have:=G.fs ((al.st n a _ ha hb).2.mpr (by have:=al.odd;omega));rw [hf] at this;cases this
  rw [e0,hr0] at hu;have e:u=l.getLast hl:=by simpa using hu
  exact ⟨_,hlast,.inl (by rw [e];exact h2)⟩
 ·rcases h5 u hu with z | ⟨d,hd,z⟩
  ·exact ⟨_,hlast,.inl z⟩
  ·exact ⟨d,List.dropLast_subset l hd,z⟩
theorem Cov.apart (G:Gr A f) (I:FI A f S) {l m:List Str} (hl:∀ d∈l,∃ r,S.rows d=some r/\S.bas d=d) (hm:∀ d∈m,∃ r,S.rows d=some r/\S.bas d=d) (hn:∀ d∈l,d∉m) (h1:Cov f S l u) (h2:Cov f S m u):False:=by
 have key:∀ {d e:Str},(∃ r,S.rows d=some r/\S.bas d=d)->(∃ r,S.rows e=some r/\S.bas e=e)->S.bas u=d->f e=some u->False:=fun ⟨r,hd,hdd⟩ ⟨s,he,hee⟩ h h'=>by
  have hu:=(I.dwn _ _ _ he hee h').1;have:=I.own hu;rw [h] at this;rw [this,hu] at hd;cases hd
 obtain ⟨d,hd,z⟩:=h1;obtain ⟨e,he,y⟩:=h2;have hde:d≠e:=fun w=>hn d hd (by rw [w];exact he);rcases z with z | z<;>rcases y with y | y
 ·exact hde (z.symm.trans y)
 ·exact key (hl d hd) (hm e he) z y
 ·exact key (hm e he) (hl d hd) y z
 ·have a:=G.fs z;rw [G.fs y] at a;exact hde (ym a).symm
theorem Turns.app {s:List Str} (h:Turns A f r) (g:∀ (j:Nat) a b,s[j]?=some a->s[j + 1]?=some b->A a b/\(f a=some b↔(r.length + j) % 2=1)) (w:∀ a b,r[r.length - 1]?=some a->s[0]?=some b->0 < r.length->A a b/\(f a=some b↔(r.length - 1) % 2=1)):Turns A f (r++s):=fun j a b ha hb=>by
 by_cases h1:j + 1 < r.length
 ·rw [yS (by omega)] at ha;rw [yS h1] at hb;exact h j a b ha hb
 ·by_cases h2:j + 1=r.length
  ·rw [yS (by omega),show j=r.length - 1 by omega] at ha;rw [yD (by omega),show j + 1 - r.length=0 by omega] at hb;rw [show j=r.length - 1 by omega];exact w a b ha hb (by omega)
  ·rw [yD (by omega)] at ha;rw [yD (by omega),show j + 1 - r.length=j - r.length + 1 by omega] at hb;have:=g _ a b ha hb
   rwa [show r.length + (j - r.length)=j by omega] at this
theorem Alt.back (G:Gr A f) {s t:List Str} {w q:Str} (hw:Alt A f s w) (hv:Alt A f r v) (er:r=rz++q::c::t) (hz:rz.length % 2=1) (ha:A w v) (hn:f w≠some v) (ap:∀ u∈s,u∉q::c::t):Alt A f (s++(q::c::t).reverse) q:=by
 obtain ⟨s0,es⟩:=hw.tl;obtain ⟨r0,er0⟩:=hv.tl;have hsl:0 < s.length:=by rw [es];simp
 have hro:=hv.odd;have hrl:r.length=rz.length + (t.length + 2):=by rw [er];simp
 have at_:∀ {j:Nat} {a:Str},(q::c::t).reverse[j]?=some a->j < t.length + 2/\r[r.length - 1 - j]?=some a:=fun {j a} h=>by
  have hl:=(yc.mp h).1;rw [Yl] at hl;simp only [yC] at hl;rw [xQ (by simp only [yC];omega)] at h;simp only [yC] at h;refine ⟨by omega,?_⟩;rw [hrl]
  conv=>lhs;rw [er]
  rw [yD (by omega),show rz.length + (t.length + 2) - 1 - j - rz.length=t.length + 1 + 1 - 1 - j by omega];exact h
 refine ⟨yX.mpr ⟨hw.nd,?_,fun x hx y hy e=>ap x hx (by rw [e];exact xY.mp hy)⟩,?_,fun y hy=>?_,⟨s++(c::t).reverse,by simp⟩,hw.st.app (fun j a b h1 h2=>?_) fun a b h1 h2 _=>?_⟩
 ·exact (kf _).nodup_iff.mpr ((yX.mp (er ▸ hv.nd)).2.1)
 ·rw [yt,Yl];simp only [yC];have:=hw.odd;omega
 ·rw [yS hsl] at hy;exact hw.hd y hy
 ·obtain ⟨l1,e1⟩:=at_ h1;obtain ⟨l2,e2⟩:=at_ h2;have:=hv.st (r.length - 1 - (j + 1)) b a e2 (by rw [show r.length - 1 - (j + 1) + 1=r.length - 1 - j by omega];exact e1);refine ⟨G.as this.1,⟨fun z=>?_,fun z=>?_⟩⟩
  ·have:=this.2.mp (G.fs z);have:=hw.odd;omega
  ·exact G.fs (this.2.mpr (by have:=hw.odd;omega))
 ·have ea:a=w:=by
   rw [es,yt,yD (by simp)] at h1;simpa using h1.symm
  have eb:b=v:=by
   obtain ⟨_,e2⟩:=at_ h2;rw [kP,er0,yt,yD (by simp)] at e2;simpa using e2.symm
  subst ea;subst eb;exact ⟨ha,⟨fun z=>absurd z hn,fun z=>by have:=hw.odd;omega⟩⟩
end
section
variable {A:Str->Str->Prop} {f:Str->Option Str} {S S':FS}
theorem Ch.nd (I:FI A f S) {l:List Str} (h:Ch f S b l):∀ {v:Str} {r:List Str},S.rows v=some r->S.bas v=b->l.Nodup:=by
 induction h with
 | root e=>intro _ _ _ _;simp
 | @step b q z l e p g ih =>
  intro v r hv hb;have hbb:S.bas b=b:=by rw [<- hb];exact I.idm v r hv
  obtain ⟨rb,h1⟩:=I.evb hv;rw [hb] at h1;obtain ⟨_,z',rz,p',hz,_⟩:=I.dwn b rb q h1 hbb e;rw [p] at p';cases p';refine yo.mpr ⟨fun hm=>?_,ih hz rfl⟩;obtain ⟨x,y,e2⟩:=Yk hm;obtain ⟨_,_,_,_,k3,_⟩:=g.up I hz rfl e2;have:=k3.one (.step e p g);rw [e2] at this;have:=congrArg List.length this;simp at this;omega
theorem Ch.suf (I:FI A f S) {l:List Str} (hv:S.rows v=some r) (h:Ch f S (S.bas v) l) {q:Str} (el:l=l1++c::l2) (hq:f c=some q):∃ rz t,r=rz++q::c::t/\rz.length % 2=1/\S.rows q=none/\∀ u∈q::c::t,Cov f S (l1++[c]) u:=by
 obtain ⟨rc,t,h1,h2,_,h4,h5⟩:=h.up I hv rfl el;obtain ⟨k1,z,rz,_,k3,k4⟩:=I.dwn c rc q h1 h2 hq;refine ⟨rz,t,by rw [h4,k4];simp,(I.alt z rz k3).odd,k1,fun u hu=>?_⟩;rcases yx.mp hu with rfl | hu
 ·exact ⟨c,by simp,.inr hq⟩
 ·rcases yx.mp hu with rfl | hu
  ·exact ⟨u,by simp,.inl h2⟩
  ·rcases h5 u hu with z | z
   ·exact ⟨c,by simp,.inl z⟩
   ·exact z.mono fun d hd=>yM _ hd
theorem Ch.meet (I:FI A f S) {w:Str} {s l:List Str} (hv:S.rows v=some r) (hw:S.rows w=some s) (h:Ch f S (S.bas v) l) (h':Ch f S (S.bas w) l') {m2:List Str} {m:Str} (el:l=l1++m::l2) (el':l'=m1++m::m2) (hd:∀ d∈l1,d∉l'):m2=l2/\∀ d∈m1,d∉l:=by
 obtain ⟨_,_,_,_,k,_⟩:=h.up I hv rfl el;obtain ⟨_,_,_,_,k',_⟩:=h'.up I hw rfl el';have e2:m2=l2:=(Y8 (k.one k')).2;refine ⟨e2,fun d hm hl=>?_⟩;obtain ⟨a,b,ea⟩:=Yk hm;obtain ⟨x,y,ex⟩:=Yk hl;obtain ⟨_,_,_,_,g,_⟩:=h.up I hv rfl ex;obtain ⟨_,_,_,_,g',_⟩:=h'.up I hw rfl (l1:=a) (c:=d) (l2:=b++m::m2) (by rw [el',ea];simp);have e3:y=b++m::m2:=(Y8 (g'.one g)).2;have hnd:=h.nd I hv rfl;have hdl:d∈l':=by rw [el',ea];simp
 have hm1:d∉l1:=fun z=>hd d z hdl;have hdm:d∈m::l2:=by rw [el] at hl;exact (yz.mp hl).resolve_left hm1
 rcases yx.mp hdm with z | z
 ·rw [z] at ex;rw [ex,e3] at hnd;have:=(yX.mp hnd).2.1;exact (yo.mp this).1 (by simp)
 ·have hmx:m∈x:=by
   obtain ⟨x2,y2,e4⟩:=Yk z;have e5:l=(l1++m::x2)++d::y2:=by rw [el,e4];simp
   obtain ⟨_,_,_,_,g2,_⟩:=h.up I hv rfl e5;have e6:y2=y:=(Y8 (g.one g2)).2;rw [e5,e6] at ex;rw [<- List.append_cancel_right ex];simp
  rw [ex,e3] at hnd;exact (yX.mp hnd).2.2 m hmx m (by simp) rfl
noncomputable def NewRow (S:FS) (v w u:Str) (r:List Str):Prop:=∃ rv rw rz t,S.rows v=some rv/\S.rows w=some rw/\rv=rz++u::t/\r=rw++(u::t).reverse
noncomputable def InR (f:Str->Option Str) (m:Str) (cs:List Str) (u:Str):Prop:=u=m\/∃ c∈cs,u=c\/f c=some u
structure Mg (f:Str->Option Str) (S S':FS) (v w m:Str) (l1 m1:List Str):Prop where
 par:S'.par=S.par
 old:∀ u r,S.rows u=some r->S'.rows u=some r
 new:∀ u r,S'.rows u=some r->S.rows u=some r\/(∃ c∈l1,f c=some u/\NewRow S v w u r)\/(∃ c∈m1,f c=some u/\NewRow S w v u r)
 all:∀ c∈l1++m1,∀ q,f c=some q->∃ r,S'.rows q=some r
 inn:∀ u,InR f m (l1++m1) (S.bas u)->S'.bas u=m
 out:∀ u,¬ InR f m (l1++m1) (S.bas u)->S'.bas u=S.bas u
theorem cut_one {a b c d:List Str} {x:Str} (hn:(a++x::b).Nodup) (e:a++x::b=c++x::d):a=c/\b=d:=by
 induction a generalizing c with
 | nil =>
  cases c with
  | nil=>exact ⟨rfl,(Y8 e).2⟩
  | cons y c =>
   obtain ⟨e1,e2⟩:=Y8 e;exact absurd (show x∈b by rw [e2];simp) (yo.mp hn).1
 | cons y a ih =>
  cases c with
  | nil =>
   obtain ⟨e1,e2⟩:=Y8 e;exact absurd (show y∈a++x::b by rw [e1];simp) (yo.mp hn).1
  | cons z c =>
   obtain ⟨e1,e2⟩:=Y8 e;obtain ⟨h1,h2⟩:=ih (yo.mp hn).2 e2;exact ⟨by rw [e1,h1],h2⟩
theorem NewRow.ok (G:Gr A f) (I:FI A f S) {w:Str} {l:List Str} (hv:S.rows v=some rv) (hw:S.rows w=some rw) (h:Ch f S (S.bas v) l) (h':Ch f S (S.bas w) l') (el:l=l1++l2) (hd:∀ d∈l1,d∉l') (ha:A w v) (hb:S.bas w≠S.bas v) (hc:c∈l1) (hu:f c=some u) (hr:NewRow S v w u r) :
  Alt A f r u/\S.rows u=none/\∃ t,r=rw++t/\∀ x∈t,Cov f S l1 x:=by
 obtain ⟨rv',rw',rz,t,k1,k2,k3,k4⟩:=hr;rw [hv] at k1;cases k1;rw [hw] at k2;cases k2;obtain ⟨a,b,ea⟩:=Yk hc;obtain ⟨rz',t',e1,e2,e3,e4⟩:=h.suf I hv (l1:=a) (c:=c) (l2:=b++l2) (by rw [el,ea];simp) hu;have hnd:=(I.alt v rv hv).nd;obtain ⟨g1,g2⟩:=cut_one (by rw [<- k3];exact hnd) (k3.symm.trans e1);subst g1;subst g2;have sub:∀ d∈a++[c],d∈l1:=fun d z=>by rw [ea];rcases yz.mp z with z | z;exact yM _ z;rw [yB.mp z];simp
 have inl:∀ d∈l1,d∈l:=fun d z=>by rw [el];exact yM _ z
 refine ⟨?_,e3,_,k4,fun x hx=>(e4 x (xY.mp hx)).mono sub⟩;rw [k4];refine Alt.back G (I.alt w rw hw) (I.alt v rv hv) e1 e2 ha (fun z=>hb (I.pair hw hv z)) fun x hx hx2=>?_;exact Cov.apart G I (fun d z=>h.bs0 I hv (inl d (sub d z))) (fun d z=>h'.bs0 I hw z) (fun d z=>hd d (sub d z)) (e4 x hx2) (h'.cov G I hw hx)
theorem FI.merge (G:Gr A f) (I:FI A f S) {w m:Str} (hv:S.rows v=some rv) (hw:S.rows w=some rw) (h:Ch f S (S.bas v) (l1++m::l2)) (h':Ch f S (S.bas w) (m1++m::l2)) (hd:∀ d∈l1,d∉m1++m::l2) (hd':∀ d∈m1,d∉l1++m::l2) (ha:A v w) (hb:S.bas v≠S.bas w) (M:Mg f S S' v w m l1 m1):FI A f S':=by
 have hm:∃ r,S.rows m=some r/\S.bas m=m:=h.bs0 I hv (by simp);obtain ⟨rm,hrm,hmm⟩:=hm
 have hcs:∀ c∈l1++m1,(∃ r,S.rows c=some r/\S.bas c=c)/\c≠m/\∃ q,f c=some q/\S.rows q=none:=fun c hc=>by
  rcases yz.mp hc with z | z
  ·refine ⟨h.bs0 I hv (yM _ z),fun e=>hd c z (by rw [e];simp),?_⟩;obtain ⟨a,b,ea⟩:=Yk z;obtain ⟨rc,_,g1,g2,g3,_⟩:=h.up I hv rfl (l1:=a) (c:=c) (l2:=b++m::l2) (by rw [ea];simp);generalize hx:b++m::l2=x at g3
   cases g3 with
   | root _=>exact absurd (congrArg List.length hx) (by simp)
   | step e _ _=>exact ⟨_,e,(I.dwn _ _ _ g1 g2 e).1⟩
  ·refine ⟨h'.bs0 I hw (yM _ z),fun e=>hd' c z (by rw [e];simp),?_⟩;obtain ⟨a,b,ea⟩:=Yk z;obtain ⟨rc,_,g1,g2,g3,_⟩:=h'.up I hw rfl (l1:=a) (c:=c) (l2:=b++m::l2) (by rw [ea];simp);generalize hx:b++m::l2=x at g3
   cases g3 with
   | root _=>exact absurd (congrArg List.length hx) (by simp)
   | step e _ _=>exact ⟨_,e,(I.dwn _ _ _ g1 g2 e).1⟩
 have cov:∀ u,Cov f S (l1++m1) u->S'.bas u=m:=fun u ⟨d,hd,z⟩=>by
  refine M.inn u ?_;rcases z with z | z
  ·exact .inr ⟨d,hd,.inl z⟩
  ·have hn:=(hcs d hd).2.2;obtain ⟨q,e,hq⟩:=hn;rw [z] at e;cases e;rw [I.own hq];exact .inr ⟨d,hd,.inr z⟩
 have covl:∀ u,Cov f S l1 u->S'.bas u=m:=fun u z=>cov u (z.mono fun d y=>yM _ y);have covm:∀ u,Cov f S m1 u->S'.bas u=m:=fun u z=>cov u (z.mono fun d y=>yK _ y);have bm:∀ u,S.bas u=m->S'.bas u=m:=fun u z=>M.inn u (.inl z);have m0:S'.bas m=m:=bm m hmm;have rm':=M.old m rm hrm
 have pre:∀ {x:Str} {rx a b:List Str},S.rows x=some rx->Ch f S (S.bas x) (a++m::b)->(∀ d∈a,d∈l1++m1)->∃ t,rx=rm++t/\∀ u∈t,S'.bas u=m:=fun {x rx a b} hx hc hs=>by
  obtain ⟨rc,t,g1,_,_,g4,g5⟩:=hc.up I hx rfl rfl;rw [hrm] at g1;cases g1;exact ⟨t,g4,fun u hu=>(g5 u hu).elim (bm u) fun z=>cov u (z.mono hs)⟩
 have nw:∀ u r,(∃ c∈l1,f c=some u/\NewRow S v w u r)\/(∃ c∈m1,f c=some u/\NewRow S w v u r)->Alt A f r u/\S.rows u=none/\S'.bas u=m/\∃ t,r=rm++t/\∀ x∈t,S'.bas x=m:=fun u r z=>by
  rcases z with ⟨c,hc,hu,hr⟩ | ⟨c,hc,hu,hr⟩
  ·obtain ⟨g1,g2,t,g3,g4⟩:=NewRow.ok G I hv hw h h' rfl hd (G.as ha) (Ye hb) hc hu hr;obtain ⟨t0,p1,p2⟩:=pre hw h' fun d y=>yK _ y;exact ⟨g1,g2,covl u ⟨c,hc,.inr hu⟩,t0++t,by rw [g3,p1];simp,fun x hx=>(yz.mp hx).elim (p2 x) fun y=>covl x (g4 x y)⟩
  ·obtain ⟨g1,g2,t,g3,g4⟩:=NewRow.ok G I hw hv h' h rfl hd' ha hb hc hu hr;obtain ⟨t0,p1,p2⟩:=pre hv h fun d y=>yM _ y;exact ⟨g1,g2,covm u ⟨c,hc,.inr hu⟩,t0++t,by rw [g3,p1];simp,fun x hx=>(yz.mp hx).elim (p2 x) fun y=>covm x (g4 x y)⟩
 have inR:∀ u r,S.rows u=some r->InR f m (l1++m1) (S.bas u)->S.bas u=m\/S.bas u∈l1++m1:=fun u r hu z=>by
  rcases z with z | ⟨c,hc,z | z⟩
  ·exact .inl z
  ·exact .inr (by rw [z];exact hc)
  ·obtain ⟨q,e,hq⟩:=(hcs c hc).2.2;rw [z] at e;cases e;obtain ⟨rb,e2⟩:=I.evb hu;rw [hq] at e2;cases e2
 refine ⟨fun u r hu=>?_,fun u r hu=>?_,fun u r hu=>?_,fun b r q hb' hbb hq=>?_,fun u hu=>?_,fun x z hx=>?_⟩
 ·rcases M.new u r hu with z | z
  ·exact I.alt u r z
  ·exact (nw u r z).1
 ·rcases M.new u r hu with z | z
  ·by_cases hin:InR f m (l1++m1) (S.bas u)
   ·rw [M.inn u hin];refine ⟨rm,?_⟩
    have:∃ t,r=rm++t/\∀ x∈t,S'.bas x=m:=by
     rcases inR u r z hin with y | y
     ·obtain ⟨rb,t,e1,e2,e3⟩:=I.bse u r z;rw [y,hrm] at e1;cases e1;exact ⟨t,e2,fun x hx=>bm x ((e3 x hx).trans y)⟩
     ·rcases yz.mp y with y | y
      ·obtain ⟨a,b,ea⟩:=Yk y;obtain ⟨_,_,_,_,g,_⟩:=h.up I hv rfl (l1:=a) (c:=S.bas u) (l2:=b++m::l2) (by rw [ea];simp);exact pre z (a:=S.bas u::b) (by simpa using g) fun d hd=>by rw [ea];rcases yx.mp hd with rfl | hd<;>simp [*]
      ·obtain ⟨a,b,ea⟩:=Yk y;obtain ⟨_,_,_,_,g,_⟩:=h'.up I hw rfl (l1:=a) (c:=S.bas u) (l2:=b++m::l2) (by rw [ea];simp);exact pre z (a:=S.bas u::b) (by simpa using g) fun d hd=>by rw [ea];rcases yx.mp hd with rfl | hd<;>simp [*]
    obtain ⟨t,e1,e2⟩:=this;exact ⟨t,rm',e1,e2⟩
   ·rw [M.out u hin];obtain ⟨rb,t,e1,e2,e3⟩:=I.bse u r z;exact ⟨rb,t,M.old _ _ e1,e2,fun x hx=>by rw [M.out x (by rw [e3 x hx];exact hin)];exact e3 x hx⟩
  ·obtain ⟨_,_,e,t,e1,e2⟩:=nw u r z;rw [e];exact ⟨rm,t,rm',e1,e2⟩
 ·by_cases hin:InR f m (l1++m1) (S.bas u)
  ·rw [M.inn u hin];exact m0
  ·rw [M.out u hin];rcases M.new u r hu with z | z
   ·have e:=I.idm u r z;rw [M.out _ (by rw [e];exact hin)];exact e
   ·obtain ⟨_,g2,_⟩:=nw u r z;have e:=I.own g2;rw [e,M.out u (by rw [e] at hin ⊢;exact hin)];exact e
 ·have hb2:S.bas b=b/\(b=m\/¬ InR f m (l1++m1) (S.bas b)):=by
   by_cases hin:InR f m (l1++m1) (S.bas b)
   ·have:=M.inn b hin;rw [hbb] at this;rw [this];exact ⟨hmm,.inl rfl⟩
   ·have:=M.out b hin;rw [hbb] at this;exact ⟨this.symm,.inr hin⟩
  obtain ⟨hb3,hb4⟩:=hb2
  have hr:S.rows b=some r:=by
   rcases M.new b r hb' with z | z
   ·exact z
   ·exfalso;obtain ⟨_,g2,g3,_⟩:=nw b r z;rw [hbb] at g3;rw [g3,hrm] at g2;cases g2
  obtain ⟨k1,z,rz,k2,k3,k4⟩:=I.dwn b r q hr hb3 hq;refine ⟨?_,z,rz,by rw [M.par];exact k2,M.old _ _ k3,k4⟩
  cases e:S'.rows q with
  | none=>rfl
  | some s =>
   exfalso
   have noc:∀ c∈l1++m1,f c=some q->False:=fun c hc hcq=>by
    have:=G.fs hcq;rw [G.fs hq] at this;have e2:=ym this;subst e2;rcases hb4 with y | y
    ·exact (hcs b hc).2.1 y
    ·exact y (.inr ⟨b,hc,.inl hb3⟩)
   rcases M.new q s e with y | ⟨c,hc,y,_⟩ | ⟨c,hc,y,_⟩
   ·rw [k1] at y;cases y
   ·exact noc c (yM _ hc) y
   ·exact noc c (yK _ hc) y
 ·by_cases hin:InR f m (l1++m1) (S.bas u)
  ·rw [M.inn u hin] at hu ⊢;by_cases hub:S.bas u=u
   ·rw [hub] at hin;rcases hin with z | ⟨c,hc,z | z⟩
    ·exact absurd z.symm hu
    ·subst z;obtain ⟨⟨r,hr,_⟩,_,q,hq,_⟩:=hcs u hc;exact ⟨⟨r,M.old _ _ hr⟩,q,hq,cov q ⟨u,hc,.inr hq⟩⟩
    ·exact ⟨M.all c hc u z,c,G.fs z,cov c ⟨c,hc,.inl (hcs c hc).1.choose_spec.2⟩⟩
   ·obtain ⟨⟨r,hr⟩,y,hy,e⟩:=I.mat u hub;exact ⟨⟨r,M.old _ _ hr⟩,y,hy,M.inn y (by rw [e];exact hin)⟩
  ·rw [M.out u hin] at hu ⊢;obtain ⟨⟨r,hr⟩,y,hy,e⟩:=I.mat u hu;exact ⟨⟨r,M.old _ _ hr⟩,y,hy,by rw [M.out y (by rw [e];exact hin)];exact e⟩
 ·rw [M.par] at hx;obtain ⟨k1,⟨r,k2⟩,y,s,k3,k4⟩:=I.odd x z hx;exact ⟨k1,⟨r,M.old _ _ k2⟩,y,s,k3,M.old _ _ k4⟩
end
structure Aug (A:Str->Str->Prop) (f:Str->Option Str) (r:List Str):Prop where
 nd:r.Nodup
 two:2<=r.length
 ev:r.length % 2=0
 st:Turns A f r
 hd:∀ s,r[0]?=some s->f s=none
 tl:∀ s,r[r.length - 1]?=some s->f s=none
section
variable {A:Str->Str->Prop} {f:Str->Option Str} {S S':FS}
theorem FI.aug (G:Gr A f) (I:FI A f S) {w:Str} {l:List Str} (hv:S.rows v=some rv) (hw:S.rows w=some rw) (h:Ch f S (S.bas v) l) (h':Ch f S (S.bas w) l') (hl:l.getLast?≠l'.getLast?) (ha:A v w):Aug A f (rv++rw.reverse):=by
 have dis:∀ d∈l,d∉l':=fun d hd hd'=>by
  obtain ⟨a,b,e⟩:=Yk hd;obtain ⟨x,y,e'⟩:=Yk hd';obtain ⟨_,_,_,_,k,_⟩:=h.up I hv rfl e;obtain ⟨_,_,_,_,k',_⟩:=h'.up I hw rfl e';have:=k.one k';exact hl (by rw [e,e',this,List.getLast?_append,List.getLast?_append];rfl)
 have av:=I.alt v rv hv;have aw:=I.alt w rw hw;obtain ⟨v0,ev⟩:=av.tl;obtain ⟨w0,ew⟩:=aw.tl;have lv:0 < rv.length:=by rw [ev];simp
 have lw:0 < rw.length:=by rw [ew];simp
 have ov:=av.odd;have ow:=aw.odd
 have hn:f v≠some w:=fun z=>by
  have e:=I.pair hv hw z;have:=h.one (e ▸ h');rw [this] at hl;exact hl rfl
 have at_:∀ {j:Nat} {a:Str},rw.reverse[j]?=some a->j < rw.length/\rw[rw.length - 1 - j]?=some a:=fun {j a} e=>by
  have hl:=(yc.mp e).1;rw [Yl] at hl;rw [xQ hl] at e;exact ⟨hl,e⟩
 refine ⟨yX.mpr ⟨av.nd,(kf _).nodup_iff.mpr aw.nd,fun x hx y hy e=>?_⟩,by rw [yt,Yl];omega,by rw [yt,Yl];omega,av.st.app (fun j a b h1 h2=>?_) fun a b h1 h2 _=>?_,fun s hs=>?_,fun s hs=>?_⟩
 ·rw [<- e] at hy;exact Cov.apart G I (fun d z=>h.bs0 I hv z) (fun d z=>h'.bs0 I hw z) dis (h.cov G I hv hx) (h'.cov G I hw (xY.mp hy))
 ·obtain ⟨l1,e1⟩:=at_ h1;obtain ⟨l2,e2⟩:=at_ h2;have:=aw.st (rw.length - 1 - (j + 1)) b a e2 (by rw [show rw.length - 1 - (j + 1) + 1=rw.length - 1 - j by omega];exact e1);refine ⟨G.as this.1,⟨fun z=>?_,fun z=>?_⟩⟩
  ·have:=this.2.mp (G.fs z);omega
  ·exact G.fs (this.2.mpr (by omega))
 ·have ea:a=v:=by
   rw [ev,yt,yD (by simp)] at h1;simpa using h1.symm
  have eb:b=w:=by
   obtain ⟨_,e2⟩:=at_ h2;rw [kP,ew,yt,yD (by simp)] at e2;simpa using e2.symm
  subst ea;subst eb;exact ⟨ha,⟨fun z=>absurd z hn,fun z=>by omega⟩⟩
 ·rw [yS lv] at hs;exact av.hd s hs
 ·rw [yt,Yl,yD (by omega),show rv.length + rw.length - 1 - rv.length=rw.length - 1 by omega] at hs;obtain ⟨_,e⟩:=at_ hs;rw [Xr] at e;exact aw.hd s e
structure Gw (S S':FS) (p u y:Str) (r:List Str):Prop where
 ry:S'.rows y=some (r++[u,y])
 ro:∀ s,s≠y->S'.rows s=S.rows s
 pu:S'.par u=some p
 po:∀ s,s≠u->S'.par s=S.par s
 ba:S'.bas=S.bas
theorem FI.fresh (G:Gr A f) (I:FI A f S) (hu:S.rows u=none) (hq:S.par u=none) (hy:f u=some y):S.rows y=none:=by
 cases e:S.rows y with
 | none=>rfl
 | some s =>
  exfalso;by_cases z:S.bas y=y
  ·obtain ⟨_,_,_,k,_⟩:=I.dwn y s u e z (G.fs hy);rw [hq] at k;cases k
  ·obtain ⟨_,x,hx,k⟩:=I.mat y z;rw [G.fs hy] at hx;cases hx;rw [I.own hu] at k;obtain ⟨rb,k2⟩:=I.evb e;rw [<- k,hu] at k2;cases k2
theorem FI.grow (G:Gr A f) (I:FI A f S) {p:Str} (hp:S.rows p=some r) (ha:A p u) (hu:S.rows u=none) (hq:S.par u=none) (hy:f u=some y) (W:Gw S S' p u y r):FI A f S':=by
 have hyn:=I.fresh G hu hq hy;have uy:u≠y:=G.ir (G.fa hy);have py:p≠y:=fun z=>by rw [z,hyn] at hp;cases hp
 have old:∀ s t,S.rows s=some t->S'.rows s=some t:=fun s t e=>by rw [W.ro s (fun z=>by rw [z,hyn] at e;cases e)];exact e
 have new:∀ s t,S'.rows s=some t->(s=y/\t=r++[u,y])\/(s≠y/\S.rows s=some t):=fun s t e=>by
  by_cases z:s=y
  ·subst z;rw [W.ry] at e;exact .inl ⟨rfl,(ym e).symm⟩
  ·rw [W.ro s z] at e;exact .inr ⟨z,e⟩
 obtain ⟨l,hl⟩:=I.chainOf hp
 have notin:∀ x∈r,x≠u/\x≠y:=fun x hx=>by
  obtain ⟨d,hd,z⟩:=hl.cov G I hp hx;obtain ⟨rd,k1,k2⟩:=hl.bs0 I hp hd;refine ⟨fun e=>?_,fun e=>?_⟩
  ·rw [e] at z;rcases z with z | z
   ·rw [I.own hu] at z;rw [z,k1] at hu;cases hu
   ·obtain ⟨_,_,_,k,_⟩:=I.dwn d rd u k1 k2 z;rw [hq] at k;cases k
  ·rw [e] at z;rcases z with z | z
   ·rw [I.own hyn] at z;rw [z,k1] at hyn;cases hyn
   ·have:=G.fs z;rw [G.fs hy] at this;rw [ym this,k1] at hu;cases hu
 have ap:=I.alt p r hp;obtain ⟨r0,er⟩:=ap.tl;have hrl:0 < r.length:=by rw [er];simp
 refine ⟨fun v t e=>?_,fun v t e=>?_,fun v t e=>?_,fun b t q e hb hf=>?_,fun v e=>?_,fun x z e=>?_⟩
 ·rcases new v t e with ⟨rfl,rfl⟩ | ⟨_,e⟩
  ·refine ⟨yX.mpr ⟨ap.nd,by simp [uy],fun x hx z hz exz=>?_⟩,by rw [yt];have:=ap.odd;simp only [yC,xm];omega,fun s hs=>?_,⟨r++[u],by simp⟩,ap.st.app (fun j a b h1 h2=>?_) fun a b h1 h2 _=>?_⟩
   ·obtain ⟨n1,n2⟩:=notin x hx;simp only [yx,y0,YU] at hz;rcases hz with rfl | rfl
    ·exact n1 exz
    ·exact n2 exz
   ·rw [yS hrl] at hs;exact ap.hd s hs
   ·have hj:j=0:=by have:=(yc.mp h2).1;simp at this;omega
    subst hj;cases h1;cases h2;exact ⟨G.fa hy,⟨fun _=>by have:=ap.odd;omega,fun _=>hy⟩⟩
   ·cases h2
    have ea:a=p:=by
     rw [er,yt,yD (by simp)] at h1;simpa using h1.symm
    subst ea;refine ⟨ha,⟨fun z=>?_,fun z=>by have:=ap.odd;omega⟩⟩;have:=G.fs z;rw [hy] at this;exact absurd (ym this).symm py
  ·exact I.alt v t e
 ·rw [W.ba];rcases new v t e with ⟨rfl,rfl⟩ | ⟨_,e⟩
  ·rw [I.own hyn];exact ⟨_,[],W.ry,by simp,(fun x h=>by cases h)⟩
  ·obtain ⟨rb,s,k1,k2,k3⟩:=I.bse v t e;exact ⟨rb,s,old _ _ k1,k2,k3⟩
 ·rw [W.ba];rcases new v t e with ⟨rfl,rfl⟩ | ⟨_,e⟩
  ·rw [I.own hyn,I.own hyn]
  ·exact I.idm v t e
 ·rw [W.ba] at hb;rcases new b t e with ⟨rfl,rfl⟩ | ⟨_,e⟩
  ·rw [G.fs hy] at hf;cases hf;exact ⟨by rw [W.ro u uy];exact hu,p,r,W.pu,old _ _ hp,rfl⟩
  ·obtain ⟨k1,z,rz,k2,k3,k4⟩:=I.dwn b t q e hb hf;refine ⟨?_,z,rz,?_,old _ _ k3,k4⟩
   ·rw [W.ro q fun z=>?_]
    ·exact k1
    ·rw [z] at hf;have:=G.fs hf;rw [G.fs hy] at this;rw [<- ym this,hu] at e;cases e
   ·rw [W.po q fun z=>?_]
    ·exact k2
    ·rw [z,hq] at k2;cases k2
 ·rw [W.ba] at e ⊢;obtain ⟨⟨t,k1⟩,k2⟩:=I.mat v e;exact ⟨⟨t,old _ _ k1⟩,k2⟩
 ·by_cases hx:x=u
  ·subst hx;rw [W.pu] at e;cases e;exact ⟨ha,⟨r,old _ _ hp⟩,y,_,hy,W.ry⟩
  ·rw [W.po x hx] at e;obtain ⟨k1,⟨t,k2⟩,y',s,k3,k4⟩:=I.odd x z e;exact ⟨k1,⟨t,old _ _ k2⟩,y',s,k3,old _ _ k4⟩
theorem FI.start (h1:∀ v r,S.rows v=some r->f v=none/\r=[v]) (h2:∀ x,S.par x=none) (h3:∀ v,S.bas v=v):FI A f S:=by
 refine ⟨fun v r e=>?_,fun v r e=>?_,fun v r e=>by rw [h3,h3],fun b r q e _ hf=>?_,fun v e=>absurd (h3 v) e,fun x z e=>by rw [h2] at e;cases e⟩
 ·obtain ⟨k,rfl⟩:=h1 v r e;refine ⟨by simp,rfl,fun s hs=>by cases hs;exact k,⟨[],rfl⟩,fun j a b h1 h2=>?_⟩;simp at h2
 ·exact ⟨r,[],by rw [h3];exact e,by simp,(fun x h=>by cases h)⟩
 ·rw [(h1 b r e).1] at hf;cases hf
end
structure CI (A:Str->Str->Prop) (S:FS) (Pd:Str->Prop):Prop where
 cl:∀ v u,Pd v->A v u->S.bas u=S.bas v\/(S.par u≠none/\¬ Pd u)
 pe:∀ v,Pd v->S.rows v≠none
theorem CI.mono (h:CI A S Pd) (hb:∀ u v,S.bas u=S.bas v->S'.bas u=S'.bas v) (hp:∀ u,S.par u≠none->S'.par u≠none) (hr:∀ u,S.rows u≠none->S'.rows u≠none):CI A S' Pd:=
 ⟨fun v u k a=>(h.cl v u k a).imp (hb u v) fun z=>⟨hp u z.1,z.2⟩,fun v k=>hr v (h.pe v k)⟩
theorem qc3:∀ {l m:List Str},l.Nodup->(∀ x∈l,x∈m)->l.length<=m.length
 | [],_,_,_=>YC _
 | x::r,m,hn,hs=>by
  obtain ⟨h1,h2⟩:=yo.mp hn;have hx:=hs x yL;have:=qc3 (l:=r) (m:=m.erase x) h2 fun y hy=>(XA (fun e=>h1 (by rw [<- e];exact hy))).mpr (hs y (yA _ hy));rw [YX hx] at this;have:0 < m.length:=Y6 hx;simp only [yC];omega
theorem qeQ:∀ (n:Nat) {X:List Str},X.length<=n->X.Nodup->(∀ x∈X,∃ y∈X,g x=some y/\y≠x/\g y=some x)->X.length % 2=0
 | _,[],_,_,_=>rfl
 | 0,x::r,h,_,_=>by simp at h
 | n + 1,x::r,h,hn,hp=>by
  obtain ⟨h1,h2⟩:=yo.mp hn;obtain ⟨y,hy,gx,hyx,gy⟩:=hp x yL;have hyr:y∈r:=(yx.mp hy).resolve_left hyx;have hl:=YX hyr;have h0:0 < r.length:=Y6 hyr
  have:=qeQ n (X:=r.erase y) (by simp at h;omega) (h2.erase y) fun z hz=>by
   have hz2:=(h2.mem_erase_iff.mp hz);obtain ⟨u,hu,gz,huz,gu⟩:=hp z (yA _ hz2.2);have ux:u≠x:=fun e=>by rw [e,gx] at gu;exact hz2.1 (ym gu).symm
   have uy:u≠y:=fun e=>by rw [e,gy] at gu;exact h1 (by rw [ym gu];exact hz2.2)
   exact ⟨u,h2.mem_erase_iff.mpr ⟨uy,(yx.mp hu).resolve_left ux⟩,gz,huz,gu⟩
  simp only [yC];omega
structure Fn (A:Str->Str->Prop) (f:Str->Option Str) (S:FS) (ss:List Str):Prop where
 fi:FI A f S
 gr:Gr A f
 inn:∀ a b,A a b->a∈ss
 nd:ss.Nodup
 cl:∀ v u,S.rows v≠none->A v u->S.bas u=S.bas v\/(S.par u≠none/\S.rows u=none)
 sng:∀ z∈ss,f z=none->S.rows z≠none
 es:∀ v,S.rows v≠none->v∈ss
noncomputable def qeb (S:FS) (ss:List Str) (b:Str):List Str:=ss.filter fun u=>(S.rows u).isSome&&decide (S.bas u=b)
noncomputable def qbb (S:FS) (ss:List Str):List Str:=ss.filter fun u=>(S.rows u).isSome&&decide (S.bas u=u)
noncomputable def qd3 (S:FS) (ss:List Str):List Str:=ss.filter fun u=>(S.par u).isSome&&!(S.rows u).isSome
noncomputable def snL (g:Str->Option Str) (ss:List Str):List Str:=ss.filter fun u=>!(g u).isSome
section
variable {A:Str->Str->Prop} {f g:Str->Option Str} {S:FS} {ss:List Str}
theorem isS {o:Option α}:o.isSome=true↔o≠none:=by cases o<;>simp
theorem mem_cls:u∈qeb S ss b↔u∈ss/\S.rows u≠none/\S.bas u=b:=by
 unfold qeb;rw [yp,yT,isS,yY]
theorem mem_bas:u∈qbb S ss↔u∈ss/\S.rows u≠none/\S.bas u=u:=by
 unfold qbb;rw [yp,yT,isS,yY]
theorem mem_bar:u∈qd3 S ss↔u∈ss/\S.par u≠none/\S.rows u=none:=by
 unfold qd3;rw [yp,yT,isS];cases S.rows u<;>simp
theorem mem_sn:u∈snL g ss↔u∈ss/\g u=none:=by
 unfold snL;rw [yp];cases g u<;>simp
theorem some_of {o:Option α} (h:o≠none):∃ r,o=some r:=by cases o with | none=>exact absurd rfl h | some r=>exact ⟨r,rfl⟩
theorem FI.evE (I:FI A f S) (hv:S.rows v≠none) (e:S.bas u=S.bas v):S.rows u≠none:=fun hu=>by
 obtain ⟨r,hr⟩:=some_of hv;obtain ⟨rb,hb⟩:=I.evb hr;rw [I.own hu] at e;rw [<- e,hu] at hb;cases hb
theorem Fn.cls_odd (F:Fn A f S ss) (hb:b∈qbb S ss):(qeb S ss b).length % 2=1:=by
 obtain ⟨b1,b2,b3⟩:=mem_bas.mp hb;have hbc:b∈qeb S ss b:=mem_cls.mpr ⟨b1,b2,b3⟩;have hnd:(qeb S ss b).Nodup:=F.nd.filter _
 have:=qeQ (g:=f) _ (X:=(qeb S ss b).erase b) (yh _) (hnd.erase b) fun z hz=>by
  obtain ⟨zb,hz⟩:=hnd.mem_erase_iff.mp hz;obtain ⟨z1,z2,z3⟩:=mem_cls.mp hz;obtain ⟨_,u,hu,hub⟩:=F.fi.mat z (fun e=>zb (e.symm.trans z3));have hue:=F.fi.evE z2 hub;refine ⟨u,hnd.mem_erase_iff.mpr ⟨fun e=>?_,mem_cls.mpr ⟨F.es u hue,hue,hub.trans z3⟩⟩,hu,Ye (F.gr.ir (F.gr.fa hu)),F.gr.fs hu⟩;obtain ⟨r,hr⟩:=some_of b2;rw [e] at hu;exact z2 (F.fi.dwn b r z hr b3 (F.gr.fs hu)).1
 rw [YX hbc] at this;have:=Y6 hbc;omega
theorem Fn.count (F:Fn A f S ss):(qbb S ss).length=(snL f ss).length + (qd3 S ss).length:=by
 have hb:(qbb S ss).Nodup:=F.nd.filter _
 have e:(qbb S ss).length=((qbb S ss).filter fun b=>!(f b).isSome).length + ((qbb S ss).filter fun b=>(f b).isSome).length:=by
  generalize qbb S ss=l
  induction l with
  | nil=>rfl
  | cons x r ih =>
   rw [yU,yU,yC,ih];cases (f x).isSome
   ·rw [yE (show (!false)=true from rfl),yy Yj,yC];omega
   ·rw [yy (show ¬ (!true)=true by decide),yE (show true=true from rfl),yC];omega
 rw [e];have e1:((qbb S ss).filter fun b=>!(f b).isSome).length=(snL f ss).length:=xM
  (qc3 (hb.filter _) fun x hx=>by
   obtain ⟨h1,h2⟩:=yp.mp hx;refine mem_sn.mpr ⟨(mem_bas.mp h1).1,?_⟩
   cases e:f x with
   | none=>rfl
   | some y=>rw [e] at h2;cases h2)
  (qc3 (F.nd.filter _) fun x hx=>by
   obtain ⟨h1,h2⟩:=mem_sn.mp hx;refine yp.mpr ⟨mem_bas.mpr ⟨h1,F.sng x h1 h2,Yz fun z=>?_⟩,by rw [h2];rfl⟩;obtain ⟨_,u,hu,_⟩:=F.fi.mat x z;rw [h2] at hu;cases hu)
 have e2:((qbb S ss).filter fun b=>(f b).isSome).length=(qd3 S ss).length:=by
  have inj:(((qbb S ss).filter fun b=>(f b).isSome).map fun b=>(f b).getD "").Nodup:=by
   refine kg.mpr (xq (fun {a b} ha hb' hab e=>?_) (hb.filter _));obtain ⟨x,hx⟩:=YW.mp (yp.mp ha).2;obtain ⟨y,hy⟩:=YW.mp (yp.mp hb').2;rw [hx,hy] at e;have exy:x=y:=e;have k:=F.gr.fs hx;rw [exy,F.gr.fs hy] at k;exact hab (ym k).symm
  refine xM ?_ ?_
  ·have:=qc3 inj (m:=qd3 S ss) fun q hq=>?_
   rwa [ya] at this
   obtain ⟨b,hb',rfl⟩:=Yd.mp hq;obtain ⟨h1,h2⟩:=yp.mp hb';obtain ⟨x,hx⟩:=YW.mp h2;obtain ⟨b1,b2,b3⟩:=mem_bas.mp h1;obtain ⟨r,hr⟩:=some_of b2;obtain ⟨k1,z,rz,k2,_⟩:=F.fi.dwn b r x hr b3 hx;rw [hx];have k3:S.par x≠none:=by rw [k2];exact fun e=>by cases e
   show x∈qd3 S ss;exact mem_bar.mpr ⟨F.inn _ _ (F.gr.as (F.gr.fa hx)),k3,k1⟩
  ·have:(qd3 S ss).length<=(((qbb S ss).filter fun b=>(f b).isSome).map fun b=>(f b).getD "").length:=qc3 (F.nd.filter _) fun q hq=>?_
   rwa [ya] at this
   obtain ⟨q1,q2,q3⟩:=mem_bar.mp hq;obtain ⟨z,hz⟩:=some_of q2;obtain ⟨_,_,y,r,k1,k2⟩:=F.fi.odd q z hz;have hy2:S.rows y≠none:=by rw [k2];exact fun e=>by cases e
   refine Yd.mpr ⟨y,yp.mpr ⟨mem_bas.mpr ⟨F.es y hy2,hy2,Yz fun e=>?_⟩,by rw [F.gr.fs k1];rfl⟩,by rw [F.gr.fs k1];rfl⟩;obtain ⟨_,u,hu,hub⟩:=F.fi.mat y e;rw [F.gr.fs k1] at hu;cases hu;exact F.fi.evE hy2 hub q3
 rw [e1,e2]
theorem Fn.most (F:Fn A f S ss) (hg:Gr A g):(snL f ss).length<=(ss.filter fun u=>!(g u).isSome&&(S.rows u).isSome).length:=by
 have key:∀ b∈qbb S ss,∃ v∈qeb S ss b,g v=none\/∃ w,g v=some w/\w∈qd3 S ss:=fun b hb=>Yz fun hno=>by
  have hodd:=F.cls_odd hb
  have:=qeQ (g:=g) _ (X:=qeb S ss b) (yh _) (F.nd.filter _) fun v hv=>by
   obtain ⟨v1,v2,v3⟩:=mem_cls.mp hv
   cases e:g v with
   | none=>exact absurd ⟨v,hv,.inl e⟩ hno
   | some w =>
    have hw:=hg.as (hg.fa e);rcases F.cl v w v2 (hg.fa e) with z | ⟨z1,z2⟩
    ·have hwe:=F.fi.evE v2 z;exact ⟨w,mem_cls.mpr ⟨F.es w hwe,hwe,z.trans v3⟩,rfl,Ye (hg.ir (hg.fa e)),hg.fs e⟩
    ·exact absurd ⟨v,hv,.inr ⟨w,e,mem_bar.mpr ⟨F.inn _ _ hw,z1,z2⟩⟩⟩ hno
  omega
 obtain ⟨φ,hφ⟩:∃ φ:Str->Str,∀ b∈qbb S ss,φ b∈qeb S ss b/\(g (φ b)=none\/∃ w,g (φ b)=some w/\w∈qd3 S ss):=
  ⟨fun b=>@dite _ (b∈qbb S ss) (Classical.propDecidable _) (fun h=>(key b h).choose) fun _=>b,fun b hb=>by
   dsimp only;rw [dif_pos hb];exact ⟨(key b hb).choose_spec.1,(key b hb).choose_spec.2⟩⟩
 have inj:∀ a∈qbb S ss,∀ b∈qbb S ss,φ a=φ b->a=b:=fun a ha b hb e=>by
  have h1:=(mem_cls.mp (hφ a ha).1).2.2;have h2:=(mem_cls.mp (hφ b hb).1).2.2;rw [<- h1,<- h2,e]
 have hb:(qbb S ss).Nodup:=F.nd.filter _
 have hle:(qbb S ss).length<=((ss.filter fun u=>!(g u).isSome&&(S.rows u).isSome)++qd3 S ss).length:=by
  rw [<- ya (f:=fun b=>(g (φ b)).getD (φ b))];refine qc3 (kg.mpr (xq (fun {a b} ha hb' hab e=>?_) hb)) fun x hx=>?_
  ·have hE:∀ c∈qbb S ss,S.rows (φ c)≠none:=fun c hc=>(mem_cls.mp (hφ c hc).1).2.1;rcases (hφ a ha).2 with z | ⟨w,z,hw⟩<;>rcases (hφ b hb').2 with y | ⟨u,y,hu⟩
   ·rw [z,y] at e;exact hab (inj a ha b hb' e)
   ·rw [z,y] at e;have e':φ a=u:=e;exact hE a ha (by rw [e'];exact (mem_bar.mp hu).2.2)
   ·rw [z,y] at e;have e':w=φ b:=e;exact hE b hb' (by rw [<- e'];exact (mem_bar.mp hw).2.2)
   ·rw [z,y] at e;have e':w=u:=e;have k:=hg.fs z;rw [e',hg.fs y] at k;exact hab (inj a ha b hb' (ym k).symm)
  ·obtain ⟨b,hb',rfl⟩:=Yd.mp hx;obtain ⟨v1,v2,v3⟩:=mem_cls.mp (hφ b hb').1;rcases (hφ b hb').2 with z | ⟨w,z,hw⟩
   ·rw [z];exact yM _ (yp.mpr ⟨v1,by show (!(g (φ b)).isSome&&(S.rows (φ b)).isSome)=true;rw [z,isS.mpr v2];rfl⟩)
   ·rw [z];exact yK _ hw
 rw [F.count,yt] at hle;omega
end
theorem qc4 {t:Str}:∀ {qs:List (Str×Str)},pt qs s=some t->(s,t)∈qs\/(t,s)∈qs
 | [],h=>by cases h
 | q::r,h=>by
  unfold pt at h;split at h
  ·rename_i e;cases h;exact .inl (by rw [<- e];simp)
  ·split at h
   ·rename_i e;cases h;exact .inr (by rw [<- e];simp)
   ·rcases qc4 h with z | z
    ·exact .inl (yA _ z)
    ·exact .inr (yA _ z)
theorem qfo:∀ {qs:List (Str×Str)},(qu qs).Nodup->∀ {a b:Str},(a,b)∈qs\/(b,a)∈qs->pt qs a=some b
 | [],_,a,b,m=>by rcases m with z | z<;>cases z
 | q::r,h,a,b,m=>by
  have hnd:(q.1::q.2::qu r).Nodup:=h;obtain ⟨d1,d2⟩:=yo.mp hnd;obtain ⟨d3,d4⟩:=yo.mp d2;have inr:∀ {x y:Str},(x,y)∈r->x∈qu r/\y∈qu r:=fun hxy=>⟨xF.mpr ⟨_,hxy,by simp⟩,xF.mpr ⟨_,hxy,by simp⟩⟩;unfold pt
  have later:(a,b)∈r\/(b,a)∈r->(if q.1=a then some q.2 else if q.2=a then some q.1 else pt r a)=some b:=fun hm=>by
   have ha:a∈qu r:=hm.elim (fun z=>(inr z).1) fun z=>(inr z).2;rw [yy (fun z=>d1 (by rw [z];exact yA _ ha)),yy (fun z=>d3 (by rw [z];exact ha))];exact qfo d4 hm
  rcases m with z | z
  ·rcases yx.mp z with z | z
   ·subst z;rw [yE rfl]
   ·exact later (.inl z)
  ·rcases yx.mp z with z | z
   ·subst z;have hne:b≠a:=fun e=>d1 (by show b∈a::_;rw [e];exact yL);rw [yy hne,yE rfl]
   ·exact later (.inr z)
theorem qdL (h:(qu qs).Nodup):pt qs a=some b↔(a,b)∈qs\/(b,a)∈qs:=⟨qc4,qfo h⟩
theorem qdM (h:(qu qs).Nodup):pt qs a=some b↔pt qs b=some a:=by
 rw [qdL h,qdL h,Or.comm]
theorem qdN {x y:Option Str} (h:∀ b,x=some b↔y=some b):x=y:=by
 cases x with
 | none=>cases y with
  | none=>rfl
  | some b=>exact absurd ((h b).mpr rfl) (fun z=>by cases z)
 | some a=>exact ((h a).mp rfl).symm
theorem K2:FnScope ["self","place","row"] ["self","place","row"] (qh jE):=fS
structure Fo where
 x:Addr
 b:Addr
 dp:Addr
 dr:Addr
 da:Addr
 ds:Addr
 dg:Addr
 dw:Addr
 ex:List Addr
noncomputable def Fo.six (a:Fo):List Addr:=[a.x,a.dr,a.da,a.ds,a.dg,a.dw]
noncomputable def Fo.all (a:Fo):List Addr:=a.six++a.ex
noncomputable def Fo.tab (a:Fo) (lo:V):List (Str×V):=[("board",.ref a.b),("partners",.ref a.dp),("rows",.ref a.dr),("parents",.ref a.da),("bases",.ref a.ds),("rings",.ref a.dg),("waiting",.ref a.dw),("longer",lo)]
noncomputable def Bx (l:List Addr) (H H':Hp):Prop:=∀ c o,c∉l->H c=some o->H' c=some o
noncomputable def RowV (H:Hp) (l:List Addr) (o:Option V):Option (List Str)->Prop
 | none=>o=none
 | some r=>∃ t,o=some (.ref t)/\H t=some (.lst (r.map V.str))/\t∉l
noncomputable def FoO (cf:Addr) (H:Hp) (a:Fo) (lo:V):Prop:=∃ dx fs,H a.x=some (.ins cf dx fs)/\fs.length<=9/\(lo=.non->fs.length<=8)/\(∀ f v,(f,v)∈a.tab lo->fs.lookup f=some v)/\∀ f,f∉fAtt->fs.lookup f=none
structure FoA (cf cw:Addr) (H0 H:Hp) (a:Fo) (ss:List Str) (ns:List Nat) (qs:List (Str×Str)) (S:FS) (bs dn wt:List Str) (lo:V):Prop where
 sm:L2.Same H0 H
 web:WebAt cw H0 a.b ss ns
 prt:H0 a.dp=some (.dK (prK qs))
 fr:∀ c∈a.six,H0 c=none
 nd:[a.dr,a.da,a.ds,a.dg,a.dw].Nodup
 exf:∀ c∈a.ex,H0 c=none/\c∉a.six/\∃ o,H c=some o
 obj:FoO cf H a lo
 row:∃ kvs,H a.dr=some (.dK kvs)/\kvs.length<=(dn++wt).length/\∀ s,RowV H a.all (jJ kvs (.inr s:Key)) (S.rows s)
 par:∃ kvs,H a.da=some (.dK kvs)/\(∃ po:List Str,kvs.length<=po.length/\po.Nodup/\∀ u∈po,u∈ss/\S.par u≠none)/\∀ s,jJ kvs (.inr s:Key)=(S.par s).map V.str
 bas:∃ kvs,H a.ds=some (.dK kvs)/\kvs.length<=bs.length/\∀ s∈bs,jJ kvs (.inr s:Key)=some (.str (S.bas s))
 rng:∃ xs,H a.dg=some (.lst xs)/\xs.length<=(dn++wt).length
 wai:H a.dw=some (.lst (wt.map V.str))
 evn:(dn++wt).Nodup
 evi:∀ v,v∈dn++wt↔S.rows v≠none
 evs:∀ v∈dn++wt,v∈ss
theorem RowV.mono {l:List Addr} {o:Option V} {r:Option (List Str)} (h:RowV H l o r) {m:List Addr} (k:Bx m H H') (hs:∀ c∈m,c∈l):RowV H' l o r:=by
 cases r with
 | none=>exact h
 | some r=>obtain ⟨t,h1,h2,h3⟩:=h;exact ⟨t,h1,k _ _ (fun z=>h3 (hs _ z)) h2,h3⟩
theorem Fo.sub {a:Fo}:∀ c∈a.six,c∈a.all:=fun c h=>yM _ h
theorem Bx.of {l:List Addr} (s:L2.Same H H'):Bx l H H':=fun c o _ e=>s c o e
theorem Bx.trans {l:List Addr} {H'':Hp} (a:Bx l H H') (b:Bx l H' H''):Bx l H H'':=fun c o n e=>b c o n (a c o n e)
section
variable {cf cw:Addr} {H0 H H':Hp} {a:Fo} {ss:List Str} {ns:List Nat} {qs:List (Str×Str)} {S S':FS} {bs dn wt:List Str} {lo:V}
theorem FoA.same (h:FoA cf cw H0 H a ss ns qs S bs dn wt lo) (s:L2.Same H H'):FoA cf cw H0 H' a ss ns qs S bs dn wt lo:=by
 obtain ⟨dx,fs,h1,h2⟩:=h.obj;obtain ⟨k1,r1,r2,r3⟩:=h.row;obtain ⟨k2,p1,p2⟩:=h.par;obtain ⟨k3,b1,b2⟩:=h.bas;obtain ⟨xs,g1,g2⟩:=h.rng;exact ⟨h.sm.trans s,h.web,h.prt,h.fr,h.nd,fun c hc=>⟨(h.exf c hc).1,(h.exf c hc).2.1,(h.exf c hc).2.2.elim fun o e=>⟨o,s _ _ e⟩⟩,⟨dx,fs,s _ _ h1,h2⟩,⟨k1,s _ _ r1,r2,fun z=>(r3 z).mono (Bx.of (l:=[]) s) (fun c h=>by cases h)⟩,⟨k2,s _ _ p1,p2⟩,⟨k3,s _ _ b1,b2⟩,⟨xs,s _ _ g1,g2⟩,s _ _ h.wai,h.evn,h.evi,h.evs⟩
theorem FoA.six (h:FoA cf cw H0 H a ss ns qs S bs dn wt lo):∀ c∈a.six,∃ o,H c=some o:=fun c hc=>by
 obtain ⟨dx,fs,h1,_⟩:=h.obj;obtain ⟨k1,r1,_⟩:=h.row;obtain ⟨k2,p1,_⟩:=h.par;obtain ⟨k3,b1,_⟩:=h.bas;obtain ⟨xs,g1,_⟩:=h.rng;simp only [Fo.six,yx,y0,YU] at hc;rcases hc with rfl | rfl | rfl | rfl | rfl | rfl
 ·exact ⟨_,h1⟩
 ·exact ⟨_,r1⟩
 ·exact ⟨_,p1⟩
 ·exact ⟨_,b1⟩
 ·exact ⟨_,g1⟩
 ·exact ⟨_,h.wai⟩
theorem FoA.new (h:FoA cf cw H0 H a ss ns qs S bs dn wt lo) {c:Addr} (e:H c=none):c∉a.six:=fun z=>by
 obtain ⟨o,k⟩:=h.six c z;rw [e] at k;cases k
theorem FoA.sep (h:FoA cf cw H0 H a ss ns qs S bs dn wt lo):a.six.Nodup:=by
 obtain ⟨dx,fs,h1,_⟩:=h.obj;obtain ⟨k1,r1,_⟩:=h.row;obtain ⟨k2,p1,_⟩:=h.par;obtain ⟨k3,b1,_⟩:=h.bas;obtain ⟨xs,g1,_⟩:=h.rng;refine yo.mpr ⟨fun z=>?_,h.nd⟩;simp only [yx,y0,YU] at z;rcases z with z | z | z | z | z
 ·rw [z,r1] at h1;cases h1
 ·rw [z,p1] at h1;cases h1
 ·rw [z,b1] at h1;cases h1
 ·rw [z,g1] at h1;cases h1
 ·rw [z,h.wai] at h1;cases h1
theorem FoO.eq (h:FoO cf H a lo) (e:H' a.x=H a.x):FoO cf H' a lo:=by
 obtain ⟨dx,fs,h1,h2⟩:=h;exact ⟨dx,fs,e.trans h1,h2⟩
theorem Bx.upd {l:List Addr} {c:Addr} (k:Bx l H H') (hc:c∈l):Bx l H (upd H' c o):=fun d u n e=>by
 rw [qe (fun z=>n (by rw [z];exact hc))];exact k d u n e
noncomputable def Fo.add (a:Fo) (c:Addr):Fo:={ a with ex:=c::a.ex }
theorem FoA.add (h:FoA cf cw H0 H a ss ns qs S bs dn wt lo) {c:Addr} (e:H c=none):FoA cf cw H0 (upd H c o) (a.add c) ss ns qs S bs dn wt lo:=by
 have g:=h.same (qL (Sr H) (o:=o) e);obtain ⟨k1,r1,r2,r3⟩:=g.row;obtain ⟨k0,r0,_,r4⟩:=h.row
 have ek:k0=k1:=by
  have:=qL (Sr H) (o:=o) e _ _ r0;rw [r1] at this;exact (HO.dK.inj (ym this)).symm
 subst ek;refine ⟨g.sm,g.web,g.prt,g.fr,g.nd,fun d hd=>?_,g.obj,⟨k0,r1,r2,fun z=>?_⟩,g.par,g.bas,g.rng,g.wai,g.evn,g.evi,g.evs⟩
 ·rcases yx.mp hd with rfl | hd
  ·exact ⟨h.sm.free e,h.new e,_,qb⟩
  ·exact g.exf d hd
 ·have g1:=r3 z;have g2:=r4 z
  cases er:S.rows z with
  | none=>rw [er] at g1;exact g1
  | some r =>
   rw [er] at g1 g2;obtain ⟨t,k1,k2,k3⟩:=g1;obtain ⟨t',j1,j2,_⟩:=g2;rw [k1] at j1;cases j1;refine ⟨t,k1,k2,fun y=>?_⟩;rcases yz.mp y with y | y
   ·exact k3 (yM _ y)
   ·rcases yx.mp y with y | y
    ·rw [y,e] at j2;cases j2
    ·exact k3 (yK _ y)
theorem FoA.updE (h:FoA cf cw H0 H a ss ns qs S bs dn wt lo) {c:Addr} (hc:c∈a.ex):FoA cf cw H0 (upd H c o) a ss ns qs S bs dn wt lo:=by
 obtain ⟨h0,h6,_⟩:=h.exf c hc;have ne:∀ {d:Addr},d∈a.six->upd H c o d=H d:=fun hd=>qe fun z=>h6 (by rw [<- z];exact hd);obtain ⟨k1,r1,r2,r3⟩:=h.row;obtain ⟨k2,p1,p2⟩:=h.par;obtain ⟨k3,b1,b2⟩:=h.bas;obtain ⟨xs,g1,g2⟩:=h.rng;refine ⟨qaa h.sm h0,h.web,h.prt,h.fr,h.nd,fun d hd=>⟨(h.exf d hd).1,(h.exf d hd).2.1,by by_cases z:d=c;exact ⟨_,by rw [z,qb]⟩;rw [qe z];exact (h.exf d hd).2.2⟩,h.obj.eq (ne (by simp [Fo.six])),⟨k1,(ne (by simp [Fo.six])).trans r1,r2,fun z=>(r3 z).mono (m:=[c]) (fun d u n e=>by rw [qe (fun y=>n (by rw [y];simp))];exact e) fun d hd=>by rw [yB.mp hd];exact yK _ hc⟩,⟨k2,(ne (by simp [Fo.six])).trans p1,p2⟩,⟨k3,(ne (by simp [Fo.six])).trans b1,b2⟩,⟨xs,(ne (by simp [Fo.six])).trans g1,g2⟩,(ne (by simp [Fo.six])).trans h.wai,h.evn,h.evi,h.evs⟩
theorem FoA.drop (h:FoA cf cw H0 H a ss ns qs S bs dn wt lo) {l:List Addr} (hs:∀ c∈l,c∈a.ex):FoA cf cw H0 H { a with ex:=l } ss ns qs S bs dn wt lo:=by
 obtain ⟨k1,r1,r2,r3⟩:=h.row;refine ⟨h.sm,h.web,h.prt,h.fr,h.nd,fun c hc=>h.exf c (hs c hc),h.obj,⟨k1,r1,r2,fun z=>?_⟩,h.par,h.bas,h.rng,h.wai,h.evn,h.evi,h.evs⟩;have g1:=r3 z
 cases er:S.rows z with
 | none=>rw [er] at g1;exact g1
 | some r =>
  rw [er] at g1;obtain ⟨t,k1,k2,k3⟩:=g1;exact ⟨t,k1,k2,fun y=>k3 ((yz.mp y).elim (fun z=>yM _ z) fun z=>yK _ (hs _ z))⟩
theorem FoA.newA (h:FoA cf cw H0 H a ss ns qs S bs dn wt lo) {c:Addr} (e:H c=none):c∉a.all:=fun z=>by
 rcases yz.mp z with z | z
 ·exact h.new e z
 ·obtain ⟨o,k⟩:=(h.exf c z).2.2;rw [e] at k;cases k
theorem FoA.few (h:FoA cf cw H0 H a ss ns qs S bs dn wt lo):(dn++wt).length<=ss.length:=ze h.evn h.evs
end
noncomputable def FS.setRow (S:FS) (p:Str) (r:List Str):FS:=⟨fun s=>if s=p then some r else S.rows s,S.par,S.bas⟩
inductive spRe (cc:Nat->Addr) (cw:Addr) (vs:List V) (H:Hp) (Q:VK) (E:XK):Prop|mk (H0:Hp) (a:Fo) (ss:List Str) (ns:List Nat) (qs:List (Str×Str)) (S:FS) (bs dn wt:List Str) (lo:V) (p:Str) (t:Addr) (r:List Str) (_:vs=[.ref a.x,.str p,.ref t]) (_:FoA (cc 9) cw H0 H a ss ns qs S bs dn wt lo) (_:ss.length<=14) (_:H t=some (.lst (r.map V.str))) (_:t∉a.all) (_:p∈ss) (_:S.rows p=none) (_:∀ H',FoA (cc 9) cw H0 H' a ss ns qs (S.setRow p r) bs dn (wt++[p]) lo->Bx a.six H H'->(∀ o,H a.dg=some o->H' a.dg=some o)->Q .non H')
inductive spBd (cc:Nat->Addr) (cw:Addr) (vs:List V) (H:Hp) (Q:VK) (E:XK):Prop|mk (H0:Hp) (a:Fo) (ss:List Str) (ns:List Nat) (qs:List (Str×Str)) (S:FS) (dn wt:List Str) (lo:V) (p:Str) (r l:List Str) (A:Str->Str->Prop) (_:vs=[.ref a.x,.str p]) (_:FoA (cc 9) cw H0 H a ss ns qs S ss dn wt lo) (_:ss.length<=14) (_:FI A (pt qs) S) (_:S.rows p=some r) (_:Ch (pt qs) S (S.bas p) l) (_:l.length<=14) (_:∀ (t:Addr) (H':Hp),L2.Same H H'->H t=none->H' t=some (.lst (l.map V.str))->Q (.ref t) H')
section
variable {P:Program} {w:World} {K:W.Frag} {mg:Str->Option Value} {base:Heap} {cc:Nat->Addr} {cw:Addr} {H0 H:Hp} {a:Fo} {ss:List Str} {ns:List Nat} {qs:List (Str×Str)} {S:FS} {bs dn wt:List Str} {lo:V}
theorem FoO.rd {Q:V->Prop} {f:Str} {v:V} (h:FoO (cc 9) H a lo) (T:Txt K mg cc cw) (i:Nat) (e:(a.tab lo)[i]?=some (f,v)) (q:Q v):∃ (c C dx:Addr) (fs:List (Str×V)) (u:V),V.ref a.x=.ref c/\H c=some (.ins C dx fs)/\Cls K C/\NoAttr K C f/\fs.lookup f=some u/\Q u:=by
 obtain ⟨dx,fs,h1,_,_,h4,_⟩:=h;refine ⟨a.x,cc 9,dx,fs,v,rfl,h1,T.fcl,T.fa f ?_,h4 f v (ye e),q⟩;have:((a.tab lo).map Prod.fst)[i]?=some f:=by rw [yd,e];rfl
 exact ye (l:=fAtt) (i:=i) this
theorem ok_re (F:Fun K "reach" "Forest.reach" jE f fd) (T:Txt K mg cc cw):FnOk P w K mg base CX0 1 f fd ["self","place","row"] (spRe cc cw):=by
 refine F.ok K2 fun _ _ _ _ H vs Q E hr h=>?_
 ·obtain ⟨H0,a,ss,ns,qs,S,bs,dn,wt,lo,p,t,r,rfl,h,h14,ht,htn,hps,hpn,q⟩:=h;have hu:=za hr;have hfew:=h.few;have hpe:p∉dn++wt:=fun z=>(h.evi p).mp z hpn;refine ⟨_,(qc (jG (pv 2) (jL (qB (K:=K) rfl (pv 0) rfl) (pv 1) (jM hu)))
 (qf (qM (qbj (K:=K) rfl yN y8 y9 qO (qB (K:=K) rfl (pv 0) rfl) (qa (pv 1) qd))))),?_⟩
  ext;obtain ⟨⟨n1,n2,n3,n4,n5⟩,⟨n6,n7,n8,n9⟩,⟨n10,n11,n12⟩,⟨n13,n14⟩,n15⟩:=(by simpa [Fo.six] using h.sep:(¬a.x=a.dr/\¬a.x=a.da/\¬a.x=a.ds/\¬a.x=a.dg/\¬a.x=a.dw)/\(¬a.dr=a.da/\¬a.dr=a.ds/\¬a.dr=a.dg/\¬a.dr=a.dw)/\(¬a.da=a.ds/\¬a.da=a.dg/\¬a.da=a.dw)/\(¬a.ds=a.dg/\¬a.ds=a.dw)/\¬a.dg=a.dw);obtain ⟨kr,r1,r2,r3⟩:=h.row;obtain ⟨ka,p1,p2,p3⟩:=h.par;obtain ⟨ks,b1,b2,b3⟩:=h.bas;obtain ⟨xs,g1,g2⟩:=h.rng;refine .inl (h.obj.rd T 2 rfl ?_);ext;refine .inr ⟨a.dr,_,rfl,DPut.k (k:=Sum.inr p) r1 (by rw [Yx];omega),?_⟩;have o1:FoO (cc 9) (upd H a.dr (.dK (j9 kr (Sum.inr p) (.ref t)))) a lo:=h.obj.eq (qe n1);have w1:upd H a.dr (.dK (j9 kr (Sum.inr p) (.ref t))) a.dw=some (.lst (wt.map V.str)):=by rw [qe (Ye n9)];exact h.wai
  ext;refine .inl (o1.rd T 6 rfl ?_);refine ⟨.inl ⟨rfl,_,.of w1⟩,?_⟩;ext;refine ⟨a.dw,_,_,rfl,rfl,w1,by rw [ya];exact qi (by rw [yt] at hfew;omega),?_⟩;have hx:∀ {c:Addr} {o o':HO},c∉a.six->upd (upd H a.dr o) a.dw o' c=H c:=fun hc=>by rw [qe (fun z=>hc (by rw [z];simp [Fo.six])),qe (fun z=>hc (by rw [z];simp [Fo.six]))]
  have bx:Bx a.six H (upd (upd H a.dr (.dK (j9 kr (Sum.inr p) (.ref t)))) a.dw (.lst (wt.map V.str++[.str p]))):=fun c o n e=>by rw [hx n];exact e
  refine q _ ⟨qaa (qaa h.sm (h.fr _ (by simp [Fo.six]))) (h.fr _ (by simp [Fo.six])),h.web,h.prt,h.fr,h.nd,fun c hc=>⟨(h.exf c hc).1,(h.exf c hc).2.1,(h.exf c hc).2.2.elim fun o e=>⟨o,bx _ _ (h.exf c hc).2.1 e⟩⟩,o1.eq (qe n5),⟨_,by rw [qe n9,qb],?_,fun z=>?_⟩,⟨ka,by rw [qe n12,qe (Ye n6)];exact p1,p2,p3⟩,⟨ks,by rw [qe n14,qe (Ye n7)];exact b1,b2,b3⟩,⟨xs,by rw [qe n15,qe (Ye n8)];exact g1,?_⟩,by rw [qb,yG];rfl,?_,fun v=>?_,fun v hv=>?_⟩ bx fun o e=>by (rw [qe n15,qe (Ye n8)];exact e)
  ·have:=jt kr (Sum.inr p:Key) (.ref t);rw [<- Yc,yt (bs:=[p])];show _<=_ + 1;omega
  ·unfold FS.setRow;dsimp only;rw [qaf];by_cases e:z=p
   ·subst e;rw [yE rfl,yE rfl];exact ⟨t,rfl,bx _ _ (fun y=>htn (Fo.sub _ y)) ht,htn⟩
   ·rw [yy (fun y=>e (Y7 y)),yy e];exact (r3 z).mono bx Fo.sub
  ·rw [<- Yc,yt (bs:=[p])];exact X9 g2
  ·rw [<- Yc];exact yX.mpr ⟨h.evn,List.pairwise_singleton _ _,fun x hx y hy e=>hpe (by rw [<- yB.mp hy,<- e];exact hx)⟩
  ·rw [<- Yc,yz,yB,h.evi];unfold FS.setRow;dsimp only;by_cases e:v=p
   ·subst e;rw [yE rfl];exact ⟨(fun _ z=>by cases z),fun _=>.inr rfl⟩
   ·rw [yy e];exact ⟨fun z=>z.resolve_right e,.inl⟩
  ·rw [<- Yc] at hv;rcases yz.mp hv with z | z
   ·exact h.evs v z
   ·rw [yB.mp z];exact hps
end
theorem kZ:FnScope ["self","place","bases","below"] ["self","place"] (qh qJ):=fS
theorem atI_last {xs:List Str}:atI ((xs++[c]).map V.str) (-1)=some (.str c):=by
 have e:ixN ((xs++[c]).map V.str).length (-1)=some xs.length:=by
  unfold ixN;rw [yy (by omega),yE (by rw [ya,yt];simp;omega)]
  congr 1
  rw [ya,yt];simp only [yC,xm];omega
 unfold atI;rw [e];show ((xs++[c]).map V.str)[xs.length]?=_;rw [yd,yD (yh _),Xr];rfl
theorem Ch.cases' {f:Str->Option Str} {t:List Str} (h:Ch f S b (b::t)):(f b=none/\t=[])\/∃ q z,f b=some q/\S.par q=some z/\Ch f S (S.bas z) t:=by
 generalize e:b::t=l at h
 cases h with
 | root h=>cases e;exact .inl ⟨h,rfl⟩
 | step h1 h2 h3=>cases e;exact .inr ⟨_,_,h1,h2,h3⟩
theorem in_prK {d:Addr} {Q:VK} (hd:H d=some (.dK (prK qs))) (q:Q (.bl (pt qs s).isSome) H):qd2 K false (.str s) (.ref d) H Q:=by
 refine .inr (.inl ⟨d,_,rfl,DGet.k (k:=Sum.inr s) hd,?_⟩);rw [jD,yy (by decide),xT];exact q
theorem qd4 {d:Addr} {kvs:List (Key×V)} {v:V} {Q:VK} (hd:H d=some (.dK kvs)) (e:jJ kvs (.inr s:Key)=some v) (q:Q v H):qfx K (.ref d) (.str s) H Q:=.inr ⟨d,v,rfl,by rw [<- e];exact DGet.k (k:=Sum.inr s) hd,q⟩
theorem ok_bd (F:Fun K "bases_down_from" "Forest.bases_down_from" qJ f fd) (T:Txt K mg cc cw):FnOk P w K mg base CX0 1 f fd ["self","place"] (spBd cc cw):=by
 refine F.ok kZ fun _ _ _ _ H vs Q E hr h=>?_
 ·obtain ⟨H0,a,ss,ns,qs,S,dn,wt,lo,p,r,l,B,rfl,h,h14,I,hp,hch,hl14,q⟩:=h;have hu:=za hr;refine ⟨_,(qc (qo (i:=2) kZ.nd rfl (yJ rfl) (je (qa (qx (qy (K:=K) rfl hu) (qB (K:=K) rfl (pv 0) rfl) (pv 1) (fun _ _=>rfl)) qd)))
 (qc (qbq yP (qp (zW (K:=K) rfl hu) (qx (qy (K:=K) rfl hu) (pv 2) (qaQ zx qg) (fun _ _=>rfl)) (qB (K:=K) rfl (pv 0) rfl) (by with_unfolding_all rfl))
 (qc (qo (i:=3) kZ.nd rfl (yJ rfl) (qx (qy (K:=K) rfl hu) (qB (K:=K) rfl (pv 0) rfl) (qx (qy (K:=K) rfl hu) (qB (K:=K) rfl (pv 0) rfl) (qx (qy (K:=K) rfl hu) (pv 2) (qaQ zx qg) (fun _ _=>rfl)) (fun _ _=>rfl)) (fun _ _=>rfl)))
 (qf (qM (qbj (K:=K) rfl yN y8 y9 qO (pv 2) (qa (qx (qy (K:=K) rfl hu) (qB (K:=K) rfl (pv 0) rfl) (pv 3) (fun _ _=>rfl)) qd))))))
 (qf (qm (pv 2))))),?_⟩
  have evS:∀ {v:Str} {r:List Str},S.rows v=some r->v∈ss:=fun e=>h.evs _ ((h.evi _).mpr (by rw [e];exact fun z=>by cases z));obtain ⟨ks,b1,b2,b3⟩:=h.bas;ext;refine .inl (h.obj.rd T 4 rfl ?_);ext;refine qd4 b1 (b3 p (evS hp)) ?_;ext;refine ⟨by show 1<=sizeLine;decide,fun bl hbl=>?_⟩;have s1:=qL (Sr H) (o:=.lst [.str (S.bas p)]) hbl;have e1:upd H bl (.lst [.str (S.bas p)]) bl=some (.lst (([]++[S.bas p]).map V.str)):=qb;generalize upd H bl (.lst [.str (S.bas p)])=H1 at s1 e1;ext;obtain ⟨W,hW0⟩:∃ W:Nat->L2.St->Hp->Prop,W=fun m σ J=>∃ (l1 l2:List Str) (c:Str) (y3:Option V),l=l1++c::l2/\σ=[some (.ref a.x),some (.str p),some (.ref bl),y3]/\L2.Same H J/\J bl=some (.lst ((l1++[c]).map V.str))/\m=l2.length:=⟨_,rfl⟩;obtain ⟨t0,et0⟩:=hch.ne;refine ⟨W,⟨t0.length,by rw [hW0];exact ⟨[],t0,_,_,et0,rfl,s1,e1,rfl⟩⟩,fun m σ J hW=>?_⟩;rw [hW0] at hW;obtain ⟨l1,l2,c,y3,el,rfl,sJ,eJ,hm⟩:=hW;obtain ⟨rc,_,hrc,hcc,hchc,_⟩:=hch.up I hp rfl el;have hJ:=h.same sJ;have hpJ:=hJ.sm _ _ h.prt;ext;refine ⟨1,rfl,?_⟩;refine .inl (zR eJ (v:=.str c) atI_last ?_);ext;refine .inl (hJ.obj.rd T 1 rfl ?_);refine in_prK hpJ ?_;rcases hchc.cases' with ⟨hf,rfl⟩ | ⟨q',z,hf,hpz,hcz⟩
  ·rw [hf];refine ⟨_,rfl,qU (fun h=>by cases h) fun _=>?_⟩;ext;exact q bl J sJ hbl (by rw [el];exact eJ)
  ·rw [hf];refine ⟨_,rfl,qai ⟨fun σ' H'=>∃ m',m' < m/\W m' σ' H',fun σ' H' z=>z,?_⟩⟩;obtain ⟨_,z',rz,hpz',hrz,_⟩:=I.dwn c rc q' hrc hcc hf;rw [hpz] at hpz';cases hpz';obtain ⟨ka,p1,p2,p3⟩:=hJ.par;obtain ⟨ks',b1',b2',b3'⟩:=hJ.bas;ext;refine .inl (hJ.obj.rd T 3 rfl ?_);ext;refine .inl (hJ.obj.rd T 1 rfl ?_);ext;refine ⟨1,rfl,?_⟩;refine .inl (zR eJ (v:=.str c) atI_last ?_);refine qd4 hpJ (by rw [jD,hf];rfl) ?_;refine qd4 p1 (by rw [p3,hpz];rfl) ?_;ext;refine ⟨.inl ⟨rfl,_,.of eJ⟩,?_⟩;ext;refine .inl (hJ.obj.rd T 4 rfl ?_);ext;refine qd4 b1' (b3' z (evS hrz)) ?_;ext;refine ⟨bl,_,_,rfl,rfl,eJ,by rw [ya];exact qi (by have:=congrArg List.length el;rw [yt,yC] at this;rw [yt];simp only [yC,xm];omega),?_⟩;obtain ⟨t1,et1⟩:=hcz.ne;rw [hW0];refine ⟨t1.length,by rw [hm,et1];simp,l1++[c],t1,S.bas z,_,by rw [el,et1];simp,rfl,qaa sJ hbl,by rw [qb,yG (l₁:=l1++[c])];rfl,rfl⟩
theorem kX:FnScope ["self","one","other","bases","side","base","place","row"] ["self","one","other","bases"] (qh qV):=fS
structure RR (f:Str->Option Str) (S S':FS) (v w:Str) (cs:List Str):Prop where
 par:S'.par=S.par
 bas:S'.bas=S.bas
 old:∀ u r,S.rows u=some r->S'.rows u=some r
 new:∀ u r,S'.rows u=some r->S.rows u=some r\/∃ c∈cs,f c=some u/\NewRow S v w u r
 all:∀ c∈cs,∀ q,f c=some q->∃ r,S'.rows q=some r
inductive spRr (cc:Nat->Addr) (cw:Addr) (vs:List V) (H:Hp) (Q:VK) (E:XK):Prop|mk (H0:Hp) (a:Fo) (ss:List Str) (ns:List Nat) (qs:List (Str×Str)) (S:FS) (dn wt:List Str) (lo:V) (v w:Str) (lb:Addr) (cs rv rw:List Str) (_:vs=[.ref a.x,.str v,.str w,.ref lb]) (_:FoA (cc 9) cw H0 H a ss ns qs S ss dn wt lo) (_:ss.length<=14) (_:H lb=some (.lst (cs.map V.str))) (_:lb∉a.six) (_:S.rows v=some rv) (_:S.rows w=some rw) (_:rv.length<=14) (_:rw.length<=14) (_:rv.Nodup) (_:cs.Nodup) (_:cs.length<=14) (_:(qu qs).Nodup) (_:(∀ c∈cs,∃ q rz t,pt qs c=some q/\S.rows q=none/\q∈ss/\rv=rz++q::t)) (_:∀ (t:Addr) (sd more:List Str) (H':Hp) (S':FS),FoA (cc 9) cw H0 H' (a.add t) ss ns qs S' ss dn (wt++more) lo->Bx a.six H H'->H t=none->H' t=some (.lst (sd.map V.str))->(∀ u,u∈sd↔∃ c∈cs,u=c\/pt qs c=some u)->sd.length=2 * cs.length->more.length=cs.length->RR (pt qs) S S' v w cs->(∀ o,H a.dg=some o->H' a.dg=some o)->Q (.ref t) H')
theorem qcz {t:List Str} {q:Str} (hn:(rz++q::t).Nodup):(rz++q::t).idxOf q=rz.length:=by
 exact qdI hn (by rw [yD (yh _),Xr];rfl)
theorem qec {a b:Addr} {Q:VK} (ea:G a=some (.lst xs)) (eb:G b=some (.lst ys)) (hl:xs.length + ys.length<=1000) (q:∀ p,G p=none->Q (.ref p) (upd G p (.lst (xs++ys)))):qcs K (.ref a) (.ref b) G Q:=.inl ⟨a,b,_,_,rfl,rfl,ea,eb,yi hl (by decide),q⟩
theorem ok_rr (F:Fun K "reach_round" "Forest.reach_round" qV f fd) (T:Txt K mg cc cw) (Kb:MethOk P w K mg base CX0 1 (cc 9) "reach" ["self","place","row"] (spRe cc cw)):FnOk P w K mg base CX0 2 f fd ["self","one","other","bases"] (spRr cc cw):=by
 refine F.ok kX fun _ _ _ _ H vs Q E hr h=>?_
 ·obtain ⟨H0,a,ss,ns,qs,S,dn,wt,lo,v,w,lb,cs,rv,rw',rfl,h,h14,hlb,hl6,hv,hw,hvl,hwl,hvn,hcn,hcl,hqn,hcs,q⟩:=h;have hu:=za hr;refine ⟨_,(qc (qo (i:=4) kX.nd rfl (yJ rfl) (je qd))
 (qc (q9 yP rfl (jg (K:=K) rfl (pv 3)) (qr (i:=5) kX.nd rfl (yJ rfl))
 (qc (qo (i:=6) kX.nd rfl (yJ rfl) (qx (qy (K:=K) rfl hu) (qB (K:=K) rfl (pv 0) rfl) (pv 5) (fun _ _=>rfl)))
 (qc (qo (i:=7) kX.nd rfl (yJ rfl) (qx (qy (K:=K) rfl hu) (qB (K:=K) rfl (pv 0) rfl) (pv 1) (fun _ _=>rfl)))
 (qc (qM (qG Kb (hmR hr) (pv 0) (qa (pv 6) (qa (qC (zc (K:=K) rfl) (qx (qy (K:=K) rfl hu) (qB (K:=K) rfl (pv 0) rfl) (pv 2) (fun _ _=>rfl)) (qdC (K:=K) rfl (jZ (qel (K:=K) rfl) (pv 7) (jI (qbj (K:=K) rfl yN xD Xk (qcw (K:=K) rfl) (pv 7) (qa (pv 6) qd))) zy) (jI (qaQ zx qg)))) qd))))
 (qf (qM (qbj (K:=K) rfl yN PySem.F.slot_list_extend PySem.F.type_list_extend qbl (pv 4) (qa (je (qa (pv 5) (qa (pv 6) qd))) qd))))))))
 (qf (qm (pv 4))))),?_⟩
  ext;refine ⟨by show 0<=sizeLine;decide,fun sd hsd=>?_⟩;have s1:=qL (Sr H) (o:=.lst []) hsd;have h1:=h.add (o:=.lst []) hsd;have e1:upd H sd (.lst []) sd=some (.lst (([]:List Str).map V.str)):=qb;have nsl:lb≠sd:=fun z=>by rw [z,hsd] at hlb;cases hlb
  generalize upd H sd (.lst [])=H1 at s1 h1 e1;ext;obtain ⟨LI,hLI⟩:∃ LI:Nat->L2.St->Hp->Prop,LI=fun i σ J=>∃ (S':FS) (more sl:List Str) (y5 y6 y7:Option V),σ=[some (.ref a.x),some (.str v),some (.str w),some (.ref lb),some (.ref sd),y5,y6,y7]/\FoA (cc 9) cw H0 J (a.add sd) ss ns qs S' ss dn (wt++more) lo/\Bx a.six H J/\J sd=some (.lst (sl.map V.str))/\(∀ u,u∈sl↔∃ c∈cs.take i,u=c\/pt qs c=some u)/\sl.length=2 * i/\more.length=i/\RR (pt qs) S S' v w (cs.take i)/\∀ o,H a.dg=some o->J a.dg=some o:=⟨_,rfl⟩;refine .inl ⟨⟨_,.of (s1 _ _ hlb)⟩,jj (xs:=cs.map V.str) LI (by rw [hLI];exact ⟨S,[],[],_,_,_,rfl,by rw [Yr];exact h1,Bx.of s1,e1,fun u=>by simp,rfl,rfl,⟨rfl,rfl,fun _ _ e=>e,fun _ _ e=>.inl e,fun c hc=>by simp at hc⟩,fun o e=>s1 _ _ e⟩) (fun i σ J _ hp=>?_) (fun i y σ J hy hp=>?_) fun σ J hp=>?_⟩
  ·rw [hLI] at hp;obtain ⟨S',more,sl,y5,y6,y7,rfl,hJ,bx,_⟩:=hp;exact .of (bx _ _ hl6 hlb)
  ·rw [hLI] at hp;obtain ⟨S',more,sl,y5,y6,y7,rfl,hJ,bx,eJ,hsl,hsll,hml,hR,hdg⟩:=hp;rw [yd] at hy;obtain ⟨c,hc,rfl⟩:=yn.mp hy;have hcm:=ye hc;obtain ⟨z,rz,t,hz,hzn,hzs,erv⟩:=hcs c hcm;have hil:i < cs.length:=(yc.mp hc).1;have htk:cs.take (i + 1)=cs.take i++[c]:=by rw [yQ,hc];rfl
   have hpJ:=hJ.sm _ _ h.prt;obtain ⟨kr,r1,r2,r3⟩:=hJ.row
   have rowOf:∀ {u:Str} {r:List Str},S.rows u=some r->∃ t,jJ kr (.inr u:Key)=some (.ref t)/\J t=some (.lst (r.map V.str)):=fun {u r} e=>by
    have:=r3 u;rw [hR.old u r e] at this;obtain ⟨t,k1,k2,_⟩:=this;exact ⟨t,k1,k2⟩
   obtain ⟨tv,kv,ev⟩:=rowOf hv;obtain ⟨tw,kw,ew⟩:=rowOf hw;ext;refine .inl (hJ.obj.rd T 1 rfl ?_);ext;refine qd4 hpJ (by rw [jD,hz];rfl) ?_;ext;refine .inl (hJ.obj.rd T 2 rfl ?_);ext;refine qd4 r1 kv ?_;ext;obtain ⟨dx,fs,hx1,_,_,_,hx2⟩:=id hJ.obj;refine ⟨a.x,dx,fs,rfl,hx1,hx2 _ (by decide +kernel),?_⟩;ext;refine .inl (hJ.obj.rd T 2 rfl ?_);ext;refine qd4 r1 kw ?_;ext;refine qfJ ?_;ext;refine ⟨.inl ⟨rfl,_,.of ev⟩,?_⟩;ext;refine ⟨tv,rv,z,rfl,rfl,.of ev,by rw [erv];simp,_,rfl,?_⟩;rw [erv] at hvn;have eix:rv.idxOf z=rz.length:=by rw [erv];exact qcz hvn
   rw [eix];ext;refine .inl ⟨tv,_,rfl,.of ev,fun c1 hc1=>?_⟩;have ecut:qbG (rv.map V.str) (some ((rz.length:Nat):Int)) none=(z::t).map V.str:=by rw [qb6,erv,yG,List.drop_left' (by simp)]
   rw [ecut];have t1:=qL (Sr J) (o:=.lst ((z::t).map V.str)) hc1;have ec1:upd J c1 (.lst ((z::t).map V.str)) c1=some (.lst ((z::t).map V.str)):=qb;generalize upd J c1 (.lst ((z::t).map V.str))=J1 at t1 ec1;ext;refine ⟨1,rfl,?_⟩;refine ⟨_,rfl,rfl,c1,_,rfl,.of ec1,fun c2 hc2=>?_⟩;have t2:=qL t1 (o:=.lst ((z::t).map V.str).reverse) hc2;have ec2:upd J1 c2 (.lst ((z::t).map V.str).reverse) c2=some (.lst ((z::t).reverse.map V.str)):=by rw [qb,kB]
   generalize upd J1 c2 (.lst ((z::t).map V.str).reverse)=J2 at t2 ec2;have htl:(z::t).length<=14:=by rw [erv,yt] at hvl;omega
   refine qec (t2 _ _ ew) ec2 (by rw [ya,ya,Yl];omega) fun c3 hc3=>?_;have hJ2:=hJ.same t2;have n3:=hJ2.newA hc3;have t3:=qL t2 (o:=.lst (rw'.map V.str++(z::t).reverse.map V.str)) hc3;have ec3:upd J2 c3 (.lst (rw'.map V.str++(z::t).reverse.map V.str)) c3=some (.lst ((rw'++(z::t).reverse).map V.str)):=by rw [qb,yG]
   generalize upd J2 c3 (.lst (rw'.map V.str++(z::t).reverse.map V.str))=J3 at t3 ec3
   have hcni:c∉cs.take i:=fun y=>by
    obtain ⟨j,hj⟩:=yf y;have hjl:=(yc.mp hj).1;rw [yR] at hjl;rw [List.getElem?_take,yE (by omega)] at hj;have:=qw hcn hj hc;omega
   have hzn':S'.rows z=none:=by
    cases e:S'.rows z with
    | none=>rfl
    | some r =>
     exfalso;rcases hR.new z r e with y | ⟨c',hc',y,_⟩
     ·rw [hzn] at y;cases y
     ·have e1:=(qdM hqn).mp y;rw [(qdM hqn).mp hz] at e1;rw [<- ym e1] at hc';exact hcni hc'
   ext;refine ⟨H0,a.add sd,ss,ns,qs,S',ss,dn,wt++more,lo,z,c3,rw'++(z::t).reverse,rfl,hJ.same t3,h14,ec3,n3,hzs,hzn',fun J4 h4 bx4 hdg4=>?_⟩;have sd6:sd∉a.six:=h.new hsd;have eJ4:J4 sd=some (.lst (sl.map V.str)):=bx4 _ _ sd6 (t3 _ _ eJ);ext;refine ⟨.inl ⟨rfl,_,.of eJ4⟩,?_⟩;ext;refine ⟨by show 2<=sizeLine;decide,fun c5 hc5=>?_⟩;have t5:=qL (Sr J4) (o:=.lst [.str c,.str z]) hc5;have ec5:upd J4 c5 (.lst [.str c,.str z]) c5=some (.lst [.str c,.str z]):=qb;generalize upd J4 c5 (.lst [.str c,.str z])=J5 at t5 ec5;have h5:=h4.same t5;ext;refine ⟨sd,c5,_,_,rfl,rfl,t5 _ _ eJ4,ec5,by rw [ya,Yx];show _ + 2<=_;omega,?_⟩;have h6:=h5.updE (c:=sd) (o:=.lst (sl.map V.str++[.str c,.str z])) yL;rw [hLI];refine ⟨S'.setRow z (rw'++(z::t).reverse),more++[z],sl++[c,z],_,_,_,rfl,by rw [<- Yc wt];exact h6,?_,by rw [qb,yG];rfl,fun u=>?_,by rw [yt,hsll];show _ + 2=_;omega,by rw [yt,hml];rfl,⟨hR.par,hR.bas,fun u r e=>?_,fun u r e=>?_,fun c' hc' q' e=>?_⟩,fun o e=>?_⟩
   ·exact fun d o n e=>by
     have ne:d≠sd:=fun y=>by rw [y,hsd] at e;cases e
     rw [qe ne];exact t5 _ _ (bx4 _ _ n (t3 _ _ (bx _ _ n e)))
   ·rw [htk,yz,hsl];simp only [yz,yx,y0,YU];constructor
    ·rintro (⟨c',h1,h2⟩ | rfl | rfl)
     ·exact ⟨c',.inl h1,h2⟩
     ·exact ⟨u,.inr rfl,.inl rfl⟩
     ·exact ⟨c,.inr rfl,.inr hz⟩
    ·rintro ⟨c',h1 | rfl,h2⟩
     ·exact .inl ⟨c',h1,h2⟩
     ·rcases h2 with h2 | h2
      ·exact .inr (.inl h2)
      ·rw [hz] at h2;exact .inr (.inr (ym h2).symm)
   ·show (if u=z then _ else S'.rows u)=_;rw [yy (fun y=>by rw [y,hzn] at e;cases e)];exact hR.old u r e
   ·have e':(if u=z then some (rw'++(z::t).reverse) else S'.rows u)=some r:=e;by_cases y:u=z
    ·subst y;rw [yE rfl] at e';exact .inr ⟨c,by rw [htk];simp,hz,rv,rw',rz,t,hv,hw,erv,(ym e').symm⟩
    ·rw [yy y] at e';rcases hR.new u r e' with x | ⟨c',h1,h2⟩
     ·exact .inl x
     ·exact .inr ⟨c',by rw [htk];exact yM _ h1,h2⟩
   ·show ∃ r,(if q'=z then some (rw'++(z::t).reverse) else S'.rows q')=some r;by_cases y:q'=z
    ·rw [yE y];exact ⟨_,rfl⟩
    ·rw [yy y];rw [htk] at hc';rcases yz.mp hc' with x | x
     ·exact hR.all c' x q' e
     ·rw [yB.mp x,hz] at e;exact absurd (ym e).symm y
   ·have ne:a.dg≠sd:=fun y=>sd6 (by rw [<- y];simp [Fo.six]);rw [qe ne];exact t5 _ _ (hdg4 o (t3 _ _ (hdg o e)))
  ·rw [hLI] at hp;obtain ⟨S',more,sl,y5,y6,y7,rfl,hJ,bx,eJ,hsl,hsll,hml,hR,hdg⟩:=hp;rw [ya] at hsll hml;rw [ya,yV] at hsl hR;ext;exact q sd sl more J S' hJ bx hsd eJ hsl hsll hml hR hdg
theorem Kt:FnScope ["self","ring","meeting","within","place"] ["self","ring","meeting"] (qh jz):=fS
noncomputable def FS.setBas (S:FS) (l:List Str) (m:Str):FS:=⟨S.rows,S.par,fun u=>if u∈l then m else S.bas u⟩
noncomputable def wnL (S:FS) (ss rg:List Str) (m:Str):List Str:=ss.filter fun u=>decide (S.bas u∈rg++[m])
inductive spFd (cc:Nat->Addr) (cw:Addr) (vs:List V) (H:Hp) (Q:VK) (E:XK):Prop|mk (H0:Hp) (a:Fo) (ss:List Str) (ns:List Nat) (qs:List (Str×Str)) (S:FS) (dn wt:List Str) (lo:V) (lr:Addr) (rg:List Str) (m:Str) (xs:List V) (_:vs=[.ref a.x,.ref lr,.str m]) (_:FoA (cc 9) cw H0 H a ss ns qs S ss dn wt lo) (_:ss.length<=14) (_:H lr=some (.lst (rg.map V.str))) (_:lr∉a.six) (_:rg.length<=100) (_:H a.dg=some (.lst xs)) (_:xs.length < (dn++wt).length) (_:∀ H',FoA (cc 9) cw H0 H' a ss ns qs (S.setBas (wnL S ss rg m) m) ss dn wt lo->Bx a.six H H'->Q .non H')
theorem put_len {kvs:List (Key×V)} {k:Key} {v u:V} (h:jJ kvs k=some u):(j9 kvs k v).length=kvs.length:=by
 unfold j9;rw [zG,h];exact ya _
theorem qdO {n:Addr} {Q:VK} (hn:H n=some (.lst (ss.map V.str))) (q:Q (.bl (decide (z∈ss))) H):qd2 K false (.str z) (.ref n) H Q:=
 .inl ⟨n,_,rfl,.inl (.of hn),rfl,YV.mpr fun x hx=>by (obtain ⟨s,_,rfl⟩:=Yd.mp hx;rfl),by rw [yy (by decide),qdK];exact q⟩
theorem FoA.setB {a:Fo} {ks:List (Key×V)} {l:List Str} {m:Str} (h:FoA (cc 9) cw H0 H a ss ns qs (S.setBas l m) ss dn wt lo) (hk:H a.ds=some (.dK ks)) (hz:z∈ss):FoA (cc 9) cw H0 (upd H a.ds (.dK (j9 ks (Sum.inr z) (.str m)))) a ss ns qs (S.setBas (l++[z]) m) ss dn wt lo/\ks.length<=ss.length:=by
 obtain ⟨kr,r1,r2,r3⟩:=h.row;obtain ⟨ka,p1,p2,p3⟩:=h.par;obtain ⟨k,b1,b2,b3⟩:=h.bas;obtain ⟨xs,g1,g2⟩:=h.rng;rw [hk] at b1;cases b1;obtain ⟨⟨n1,n2,n3,n4,n5⟩,⟨n6,n7,n8,n9⟩,⟨n10,n11,n12⟩,⟨n13,n14⟩,n15⟩:=(by simpa [Fo.six] using h.sep:(¬a.x=a.dr/\¬a.x=a.da/\¬a.x=a.ds/\¬a.x=a.dg/\¬a.x=a.dw)/\(¬a.dr=a.da/\¬a.dr=a.ds/\¬a.dr=a.dg/\¬a.dr=a.dw)/\(¬a.da=a.ds/\¬a.da=a.dg/\¬a.da=a.dw)/\(¬a.ds=a.dg/\¬a.ds=a.dw)/\¬a.dg=a.dw);have bx:Bx a.six H (upd H a.ds (.dK (j9 ks (Sum.inr z) (.str m)))):=fun c o n e=>by rw [qe (fun y=>n (by rw [y];simp [Fo.six]))];exact e
 refine ⟨⟨qaa h.sm (h.fr _ (by simp [Fo.six])),h.web,h.prt,h.fr,h.nd,fun c hc=>⟨(h.exf c hc).1,(h.exf c hc).2.1,(h.exf c hc).2.2.elim fun o e=>⟨o,bx _ _ (h.exf c hc).2.1 e⟩⟩,h.obj.eq (qe n3),⟨kr,by rw [qe n7];exact r1,r2,fun y=>(r3 y).mono bx Fo.sub⟩,⟨ka,by rw [qe n10];exact p1,p2,p3⟩,⟨_,qb,by rw [put_len (b3 z hz)];exact b2,fun u hu=>?_⟩,⟨xs,by rw [qe (Ye n13)];exact g1,g2⟩,by rw [qe (Ye n14)];exact h.wai,h.evn,h.evi,h.evs⟩,b2⟩;rw [qaf,b3 u hu];show (if _ then _ else _)=some (V.str (if u∈l++[z] then m else S.bas u));have e0:(S.setBas l m).bas u=if u∈l then m else S.bas u:=rfl;rw [e0];by_cases e:u=z
 ·subst e;rw [yE rfl,yE (by simp)]
 ·rw [yy (fun x=>e (Y7 x))];by_cases y:u∈l
  ·rw [yE y,yE (yM _ y)]
  ·rw [yy y,yy (fun x=>(yz.mp x).elim y fun x=>e (yB.mp x))]
theorem FoA.updG {a:Fo} {bs:List Str} (h:FoA (cc 9) cw H0 H a ss ns qs S bs dn wt lo) (hx:xs.length<=(dn++wt).length):FoA (cc 9) cw H0 (upd H a.dg (.lst xs)) a ss ns qs S bs dn wt lo:=by
 obtain ⟨kr,r1,r2,r3⟩:=h.row;obtain ⟨ka,p1,p2,p3⟩:=h.par;obtain ⟨k,b1,b2,b3⟩:=h.bas;obtain ⟨⟨n1,n2,n3,n4,n5⟩,⟨n6,n7,n8,n9⟩,⟨n10,n11,n12⟩,⟨n13,n14⟩,n15⟩:=(by simpa [Fo.six] using h.sep:(¬a.x=a.dr/\¬a.x=a.da/\¬a.x=a.ds/\¬a.x=a.dg/\¬a.x=a.dw)/\(¬a.dr=a.da/\¬a.dr=a.ds/\¬a.dr=a.dg/\¬a.dr=a.dw)/\(¬a.da=a.ds/\¬a.da=a.dg/\¬a.da=a.dw)/\(¬a.ds=a.dg/\¬a.ds=a.dw)/\¬a.dg=a.dw);have bx:Bx a.six H (upd H a.dg (.lst xs)):=(Bx.of (Sr H)).upd (by simp [Fo.six]);exact ⟨qaa h.sm (h.fr _ (by simp [Fo.six])),h.web,h.prt,h.fr,h.nd,fun c hc=>⟨(h.exf c hc).1,(h.exf c hc).2.1,(h.exf c hc).2.2.elim fun o e=>⟨o,bx _ _ (h.exf c hc).2.1 e⟩⟩,h.obj.eq (qe n4),⟨kr,by rw [qe n8];exact r1,r2,fun y=>(r3 y).mono bx Fo.sub⟩,⟨ka,by rw [qe n11];exact p1,p2,p3⟩,⟨k,by rw [qe n13];exact b1,b2,b3⟩,⟨xs,qb,hx⟩,by rw [qe (Ye n15)];exact h.wai,h.evn,h.evi,h.evs⟩
theorem ok_fdF (F:Fun K "fold" "Forest.fold" jz f fd) (T:Txt K mg cc cw) (k8:MethOk P w K mg base CX0 1 cw "places" ["self"] (spPls cw)):FnOk P w K mg base CX0 2 f fd ["self","ring","meeting"] (spFd cc cw):=by
 refine F.ok Kt fun _ _ _ _ H vs Q E hr h=>?_
 ·obtain ⟨H0,a,ss,ns,qs,S,dn,wt,lo,lr,rg,m,xs,rfl,h,h14,hlr,hl6,hrl,hdg,hxl,q⟩:=h;have hu:=za hr;refine ⟨_,(qc (qbr (sc:=qh jz) (XN:=["self","ring","meeting","within","place"]) ["place","ring","self","meeting"] 1 [1,0,2] rfl rfl rfl (by decide +kernel) rfl (by decide +kernel) (i:=3) Kt.nd rfl rfl
  (jg (K:=K) rfl (qZ k8 (hmR hr) (qB (K:=K) rfl (pv 0) rfl))) (fun _ _ _ _=>(qr (i:=0) (show (["place","ring","self","meeting"]:List Str).Nodup by decide +kernel) rfl (yJ rfl))) ji
  (fun _ _ _ _=>(jO (qp (zW (K:=K) rfl hu) (qx (qy (K:=K) rfl hu) (qB (K:=K) rfl (pv 2) rfl) (pv 0) (fun _ _=>rfl)) (qC (zc (K:=K) rfl) (pv 1) (je (qa (pv 3) qd))) (by with_unfolding_all rfl))))
  (fun _ _ _ _=>(pv 0)))
 (qc (q9 yP rfl (jg (K:=K) rfl (pv 3)) (qr (i:=4) Kt.nd rfl (yJ rfl))
 (qf (jG (pv 2) (jL (qB (K:=K) rfl (pv 0) rfl) (pv 4) (jM hu)))))
 (qf (qM (qbj (K:=K) rfl yN y8 y9 qO (qB (K:=K) rfl (pv 0) rfl) (qa (pv 3) qd)))))),?_⟩
  have hfew:=h.few;have hWb:=h.web.same h.sm;obtain ⟨wx,dd,ol,nn,hb,_⟩:=id hWb;ext;refine .inl (h.obj.rd T 0 rfl ?_);refine ⟨a.b,wx,_,rfl,hb,jY (by decide +kernel),?_⟩;ext;refine ⟨a.b,ss,ns,rfl,hWb,fun pl hpl=>?_⟩;have s1:=qL (Sr H) (o:=.lst (ss.map V.str)) hpl;have e1:upd H pl (.lst (ss.map V.str)) pl=some (.lst (ss.map V.str)):=qb;generalize upd H pl (.lst (ss.map V.str))=H1 at s1 e1;refine .inl ⟨⟨_,.of e1⟩,jo (xs:=ss.map V.str) (fun i ys J=>L2.Same H1 J/\ys=((ss.take i).filter fun u=>decide (S.bas u∈rg++[m])).map V.str) ⟨L2.Same.refl H1,rfl⟩ (fun i ys J _ hp=>.of (hp.1 _ _ e1)) (fun i y ys J hy hp=>?_) fun ys J hp=>?_⟩
  ·obtain ⟨sJ,rfl⟩:=hp;rw [yd] at hy;obtain ⟨z,hz,rfl⟩:=yn.mp hy;have s0J:=s1.trans sJ;have hJ:=h.same s0J;obtain ⟨ks,b1,b2,b3⟩:=hJ.bas;have hil:=(yc.mp hz).1
   have estep:(ss.take (i + 1)).filter (fun u=>decide (S.bas u∈rg++[m]))=(ss.take i).filter (fun u=>decide (S.bas u∈rg++[m]))++(if S.bas z∈rg++[m] then [z] else []):=by
    rw [yQ,hz,Yp];show _++[z].filter _=_;rw [yU];simp only [xU,YK]
   ext;refine .inl (hJ.obj.rd T 4 rfl ?_);ext;refine qd4 b1 (b3 z (ye hz)) ?_;ext;refine ⟨by show 1<=sizeLine;decide,fun c1 hc1=>?_⟩;have t1:=qL (Sr J) (o:=.lst [.str m]) hc1;have ec1:upd J c1 (.lst [.str m]) c1=some (.lst [.str m]):=qb;generalize upd J c1 (.lst [.str m])=J1 at t1 ec1;refine qec ((s0J.trans t1) _ _ hlr) ec1 (by rw [ya];show _ + 1<=_;omega) fun c2 hc2=>?_;have t2:=qL t1 (o:=.lst (rg.map V.str++[.str m])) hc2;have ec2:upd J1 c2 (.lst (rg.map V.str++[.str m])) c2=some (.lst ((rg++[m]).map V.str)):=by rw [qb,yG];rfl
   generalize upd J1 c2 (.lst (rg.map V.str++[.str m]))=J2 at t2 ec2;refine qdO ec2 ⟨_,rfl,?_⟩;rw [estep];by_cases hin:S.bas z∈rg++[m]
   ·rw [yI hin,yE hin];refine qai ?_;ext;have hfl:=yW (fun u=>decide (S.bas u∈rg++[m])) (ss.take i);rw [yR] at hfl;refine ⟨by rw [ya];exact qi (by omega),sJ.trans t2,by rw [yG];rfl⟩
   ·rw [yl hin,yy hin,Yr];refine yq ?_;exact ⟨sJ.trans t2,rfl⟩
  ·obtain ⟨sJ,rfl⟩:=hp;rw [show (ss.map V.str).length=ss.length from ya _,yV];have s0J:=s1.trans sJ;have hwl:(ss.filter fun u=>decide (S.bas u∈rg++[m])).length<=ss.length:=yW _ _;refine ⟨by rw [ya];exact yZ (qi (by omega)),fun wn hwn=>?_⟩;have s2:=qL s0J (o:=.lst ((wnL S ss rg m).map V.str)) hwn;have ew:upd J wn (.lst ((wnL S ss rg m).map V.str)) wn=some (.lst ((wnL S ss rg m).map V.str)):=qb;have hwl2:(wnL S ss rg m).length<=ss.length:=hwl;have hwm:∀ u∈wnL S ss rg m,u∈ss:=fun u hu=>(yp.mp hu).1;show qfA _ _ _ _ (upd J wn (.lst ((wnL S ss rg m).map V.str)));generalize wnL S ss rg m=wl at *;have hwn6:=(h.same s0J).new hwn;generalize upd J wn (.lst (wl.map V.str))=H2 at s2 ew;have h2:=h.same s2;ext;refine .inl ⟨⟨_,.of ew⟩,jj (xs:=wl.map V.str) (fun i σ J=>Bx a.six H2 J/\(∀ o,H2 a.dg=some o->J a.dg=some o)/\FoA (cc 9) cw H0 J a ss ns qs (S.setBas (wl.take i) m) ss dn wt lo/\∃ y4,σ=[some (.ref a.x),some (.ref lr),some (.str m),some (.ref wn),y4]) ⟨fun c o _ e=>e,fun _ e=>e,?_,_,rfl⟩ (fun i σ J _ hp=>.of (hp.1 _ _ hwn6 ew)) (fun i y σ J hy hp=>?_) fun σ J hp=>?_⟩
   ·have:S.setBas ([]:List Str) m=S:=by unfold FS.setBas;simp
    rw [X4,this];exact h2
   ·obtain ⟨bx,hg,hJ,y4,rfl⟩:=hp;rw [yd] at hy;obtain ⟨z,hz,rfl⟩:=yn.mp hy;obtain ⟨ks,b1,b2,b3⟩:=hJ.bas;have htk:wl.take (i + 1)=wl.take i++[z]:=by rw [yQ,hz];rfl
    obtain ⟨h3,hkl⟩:=hJ.setB b1 (hwm z (ye hz));ext;refine .inl (hJ.obj.rd T 4 rfl ?_);ext;refine .inr ⟨a.ds,_,rfl,DPut.k (k:=Sum.inr z) b1 (by rw [Yx];omega),?_⟩;have nsg:a.dg≠a.ds:=fun e=>by have:=h.nd;rw [e] at this;simp at this
    exact ⟨fun c o n e=>by rw [qe (fun y=>n (by rw [y];simp [Fo.six]))];exact bx c o n e,fun o e=>by rw [qe nsg];exact hg o e,by rw [htk];exact h3,_,rfl⟩
   ·obtain ⟨bx,hg,hJ,y4,rfl⟩:=hp;rw [ya,yV] at hJ;have edg:=hg _ (s2 _ _ hdg);ext;refine .inl (hJ.obj.rd T 5 rfl ?_);refine ⟨.inl ⟨rfl,_,.of edg⟩,?_⟩;ext;refine ⟨a.dg,_,_,rfl,rfl,edg,qi (by omega),?_⟩;exact q _ (hJ.updG (by rw [yt];simp only [yC,xm];omega)) ((Bx.of s2).trans bx |>.upd (by simp [Fo.six]))
theorem kU:FnScope ["self","one","other","ones","others","meeting","ring"] ["self","one","other"] (qh qH):=fS
structure Mono (S S':FS):Prop where
 ba:∀ u v,S.bas u=S.bas v->S'.bas u=S'.bas v
 pa:∀ u,S.par u≠none->S'.par u≠none
 ro:∀ u r,S.rows u=some r->S'.rows u=some r
theorem Mono.refl (S:FS):Mono S S:=⟨fun _ _ e=>e,fun _ e=>e,fun _ _ e=>e⟩
theorem Mono.trans {S'':FS} (a:Mono S S') (b:Mono S' S''):Mono S S'':=⟨fun u v e=>b.ba u v (a.ba u v e),fun u e=>b.pa u (a.pa u e),fun u r e=>b.ro u r (a.ro u r e)⟩
structure Wb (A:Str->Str->Prop) (ss:List Str) (qs:List (Str×Str)):Prop where
 gr:Gr A (pt qs)
 inn:∀ a b,A a b->a∈ss
 qn:(qu qs).Nodup
 few:ss.length<=14
 nd:ss.Nodup
theorem Alt.inn (W:Wb A ss qs) (h:Alt A (pt qs) r v) (hv:v∈ss):r.length<=14/\∀ u∈r,u∈ss:=by
 have hin:∀ u∈r,u∈ss:=fun u hu=>by
  obtain ⟨j,hj⟩:=yf hu;obtain ⟨r0,e⟩:=h.tl;by_cases hl:j + 1 < r.length
  ·obtain ⟨b,hb⟩:∃ b,r[j + 1]?=some b:=⟨_,yb hl⟩;exact W.inn _ _ (h.st j u b hj hb).1
  ·have hj2:=(yc.mp hj).1;have:j=r0.length:=by rw [e,yt] at hj2 hl;simp at hj2 hl;omega
   rw [e,this,yD (yh _),Xr] at hj;rw [<- ym hj];exact hv
 exact ⟨yi (ze h.nd hin) W.few,hin⟩
theorem qc5 (l':List Str):∀ {l:List Str},(∃ d∈l,d∈l')->∃ l1 m l2,l=l1++m::l2/\m∈l'/\(∀ d∈l1,d∉l')/\∃ t,l.filter (fun d=>decide (d∈l'))=m::t
 | [],⟨_,h,_⟩=>by cases h
 | x::r,h=>by
  by_cases hx:x∈l'
  ·exact ⟨[],x,r,rfl,hx,(fun _ h=>by cases h),_,by rw [yU,yE (yI hx)]⟩
  ·obtain ⟨d,hd,hd'⟩:=h;obtain ⟨l1,m,l2,e1,e2,e3,t,e4⟩:=qc5 l' (l:=r) ⟨d,(yx.mp hd).resolve_left (fun z=>hx (by rw [<- z];exact hd')),hd'⟩;refine ⟨x::l1,m,l2,by rw [e1];rfl,e2,fun y hy=>?_,t,by rw [yU,yy (by simpa using hx)];exact e4⟩;rcases yx.mp hy with rfl | hy
   ·exact hx
   ·exact e3 y hy
inductive spBt (cc:Nat->Addr) (cw:Addr) (vs:List V) (H:Hp) (Q:VK) (E:XK):Prop|mk (H0:Hp) (a:Fo) (ss:List Str) (ns:List Nat) (qs:List (Str×Str)) (S:FS) (dn wt:List Str) (v w:Str) (rv rw:List Str) (A:Str->Str->Prop) (_:vs=[.ref a.x,.str v,.str w]) (_:FoA (cc 9) cw H0 H a ss ns qs S ss dn wt .non) (_:Wb A ss qs) (_:FI A (pt qs) S) (_:S.rows v=some rv) (_:S.rows w=some rw) (_:A v w) (_:(∀ (H':Hp) (S':FS) (more:List Str),FoA (cc 9) cw H0 H' a ss ns qs S' ss dn (wt++more) .non->Bx a.six H H'->FI A (pt qs) S'->S'.bas v=S'.bas w->Mono S S'->Q .non H')) (_:∀ (H':Hp) (t:Addr) (r:List Str),FoA (cc 9) cw H0 H' a ss ns qs S ss dn wt (.ref t)->Bx a.six H H'->H' t=some (.lst (r.map V.str))->t∉a.all->Aug A (pt qs) r->r.length<=28->Q .non H')
theorem qev {d:Str} {Q:VK} (q:Q (.bl (!decide (c=d))) H):qeq K true (.str c) (.str d) H Q:=by
 refine .inl ⟨rfl,rfl,?_⟩;rw [yE rfl]
 have e:eqV (.str c) (.str d)=decide (c=d):=by
  by_cases h:c=d
  ·subst h;simp [eqV]
  ·simp [eqV,h]
 rw [e];exact q
theorem FoA.setL {a:Fo} {bs:List Str} {fs:List (Str×V)} {v:V} (h:FoA (cc 9) cw H0 H a ss ns qs S bs dn wt .non) (hx:H a.x=some (.ins (cc 9) dx fs)) (hv:v≠.non):fs.length < 1000/\FoA (cc 9) cw H0 (upd H a.x (.ins (cc 9) dx (qE "longer" v fs))) a ss ns qs S bs dn wt v:=by
 obtain ⟨dx',fs',x1,x2,x3,x4,x5⟩:=h.obj;rw [hx] at x1;cases x1;have hl:=x3 rfl;obtain ⟨kr,r1,r2,r3⟩:=h.row;obtain ⟨ka,p1,p2,p3⟩:=h.par;obtain ⟨k,b1,b2,b3⟩:=h.bas;obtain ⟨xs,g1,g2⟩:=h.rng;have hs:=h.sep;have nx:∀ {c:Addr},c∈[a.dr,a.da,a.ds,a.dg,a.dw]->c≠a.x:=fun hc e=>(yo.mp hs).1 (by rw [<- e];exact hc);have bx:Bx a.six H (upd H a.x (.ins (cc 9) dx (qE "longer" v fs))):=(Bx.of (Sr H)).upd (by simp [Fo.six]);refine ⟨by omega,qaa h.sm (h.fr _ (by simp [Fo.six])),h.web,h.prt,h.fr,h.nd,fun c hc=>⟨(h.exf c hc).1,(h.exf c hc).2.1,(h.exf c hc).2.2.elim fun o e=>⟨o,bx _ _ (h.exf c hc).2.1 e⟩⟩,⟨dx,_,qb,yi (js _ _ _) (by omega),fun e=>absurd e hv,fun f u hf=>?_,fun f hf=>?_⟩,⟨kr,by rw [qe (nx (by simp))];exact r1,r2,fun y=>(r3 y).mono bx Fo.sub⟩,⟨ka,by rw [qe (nx (by simp))];exact p1,p2,p3⟩,⟨k,by rw [qe (nx (by simp))];exact b1,b2,b3⟩,⟨xs,by rw [qe (nx (by simp))];exact g1,g2⟩,by rw [qe (nx (by simp))];exact h.wai,h.evn,h.evi,h.evs⟩
 ·rw [qz];by_cases e:f="longer"
  ·rw [yE e];subst e;have:(Str.ofString "longer",u)∈a.tab v:=hf;simp only [Fo.tab,yx,Xb,y0,YU] at this;rcases this with ⟨z,_⟩ | ⟨z,_⟩ | ⟨z,_⟩ | ⟨z,_⟩ | ⟨z,_⟩ | ⟨z,_⟩ | ⟨z,_⟩ | ⟨_,z⟩<;>first | exact absurd z (by decide +kernel) | exact congrArg some z.symm
  ·rw [yy e];refine x4 f u ?_;have:(f,u)∈a.tab v:=hf;simp only [Fo.tab,yx,Xb,y0,YU] at this ⊢;rcases this with z | z | z | z | z | z | z | ⟨z,_⟩
   all_goals first | exact absurd z e | simp [z]
 ·rw [qz,yy (fun e=>hf (by rw [e];decide +kernel))];exact x5 f hf
theorem FoA.rowAt {a:Fo} {bs:List Str} (h:FoA (cc 9) cw H0 H a ss ns qs S bs dn wt lo) (e:S.rows u=some r) {Q:VK} (q:∀ t,H t=some (.lst (r.map V.str))->Q (.ref t) H):qfx K (.ref a.dr) (.str u) H Q:=by
 obtain ⟨kr,r1,_,r3⟩:=h.row;have:=r3 u;rw [e] at this;obtain ⟨t,k1,k2,_⟩:=this;exact qd4 r1 k1 (q t k2)
theorem ok_bt (F:Fun K "bring_together" "Forest.bring_together" qH f fd) (T:Txt K mg cc cw) (Ki:MethOk P w K mg base CX0 1 (cc 9) "bases_down_from" ["self","place"] (spBd cc cw)) (Ko:MethOk P w K mg base CX0 2 (cc 9) "reach_round" ["self","one","other","bases"] (spRr cc cw)) (ud:MethOk P w K mg base CX0 2 (cc 9) "fold" ["self","ring","meeting"] (spFd cc cw)):FnOk P w K mg base CX0 3 f fd ["self","one","other"] (spBt cc cw):=by
 refine F.ok kU fun _ _ _ _ H vs Q E hr h=>?_
 ·obtain ⟨H0,a,ss,ns,qs,S,dn,wt,v,w,rv,rw',B,rfl,h,hWb,I,hv,hw,hvw,q1,q2⟩:=h;have hu:=za hr;have evS:∀ {v:Str} {r:List Str},S.rows v=some r->v∈ss:=fun e=>h.evs _ ((h.evi _).mpr (by rw [e];exact fun z=>by cases z));obtain ⟨l,hl⟩:=I.chainOf hv;obtain ⟨l',hl'⟩:=I.chainOf hw;have hln:=hl.nd I hv rfl;have hln':=hl'.nd I hw rfl;have hl14:l.length<=14:=yi (ze hln fun c hc=>(hl.bs0 I hv hc).elim fun r z=>evS z.1) hWb.few;have hl14':l'.length<=14:=yi (ze hln' fun c hc=>(hl'.bs0 I hw hc).elim fun r z=>evS z.1) hWb.few;obtain ⟨rl14,rvs⟩:=(I.alt v rv hv).inn hWb (evS hv);obtain ⟨rl14',rws⟩:=(I.alt w rw' hw).inn hWb (evS hw);obtain ⟨lx,c,elc⟩:∃ lx c,l=lx++[c]:=by obtain ⟨t,e⟩:=hl.ne;exact ⟨_,_,(Y3 (by rw [e];exact kA _ _)).symm⟩
  obtain ⟨ly,d,eld⟩:∃ ly d,l'=ly++[d]:=by obtain ⟨t,e⟩:=hl'.ne;exact ⟨_,_,(Y3 (by rw [e];exact kA _ _)).symm⟩
  refine ⟨_,(qc (qo (i:=3) kU.nd rfl (yJ rfl) (qG Ki (hmR hr) (pv 0) (qa (pv 1) qd)))
 (qc (qo (i:=4) kU.nd rfl (X2 rfl) (qG Ki (hmR hr) (pv 0) (qa (pv 2) qd)))
 (qf (qP (qp (qaB (K:=K) rfl hu) (qx (qy (K:=K) rfl hu) (pv 3) (qaQ zx qg) (fun _ _=>rfl)) (qx (qy (K:=K) rfl hu) (pv 4) (qaQ zx qg) (fun _ _=>rfl)) (qD _)) (qf (jK (K:=K) rfl (pv 0) (qC (zc (K:=K) rfl) (qx (qy (K:=K) rfl hu) (qB (K:=K) rfl (pv 0) rfl) (pv 1) (fun _ _=>rfl)) (qdC (K:=K) rfl (qx (qy (K:=K) rfl hu) (qB (K:=K) rfl (pv 0) rfl) (pv 2) (fun _ _=>rfl)) (jI (qaQ zx qg)))) rfl)) (qf (qP (qp (qaB (K:=K) rfl hu) (qx (qy (K:=K) rfl hu) (pv 3) qg (fun _ _=>rfl)) (qx (qy (K:=K) rfl hu) (pv 4) qg (fun _ _=>rfl)) (qD _)) (qc (qo (i:=5) kU.nd rfl (yJ rfl) (qx (qy (K:=K) rfl hu) (jw (sc:=qh qH) (XN:=["self","one","other","ones","others","meeting","ring"]) ["base","others"] 1 [4] rfl rfl rfl (by decide +kernel) rfl (by decide +kernel)
  (jg (K:=K) rfl (pv 3)) (fun _ _ _ _=>(qr (i:=0) (show (["base","others"]:List Str).Nodup by decide +kernel) rfl (yJ rfl))) ji
  (fun _ _ _ _=>(jO (qp (zW (K:=K) rfl hu) (pv 0) (pv 1) (by with_unfolding_all rfl))))
  (fun _ _ _ _=>(pv 0))) qg (fun _ _=>rfl)))
 (qc (qo (i:=6) kU.nd rfl (yJ rfl) (qG Ko (hmR hr) (pv 0) (qa (pv 1) (qa (pv 2) (qa (jZ (qel (K:=K) rfl) (pv 3) zy (jI (qbj (K:=K) rfl yN xD Xk (qcw (K:=K) rfl) (pv 3) (qa (pv 5) qd)))) qd)))))
 (qc (qM (qbj (K:=K) rfl yN PySem.F.slot_list_extend PySem.F.type_list_extend qbl (pv 6) (qa (qG Ko (hmR hr) (pv 0) (qa (pv 2) (qa (pv 1) (qa (jZ (qel (K:=K) rfl) (pv 4) zy (jI (qbj (K:=K) rfl yN xD Xk (qcw (K:=K) rfl) (pv 4) (qa (pv 5) qd)))) qd)))) qd)))
 (qf (qM (qG ud (hmR hr) (pv 0) (qa (pv 6) (qa (pv 5) qd)))))))) qv)))))),?_⟩
  ext;obtain ⟨dx,fs,hx1,_,_,_,hx2⟩:=id h.obj;refine ⟨a.x,dx,fs,rfl,hx1,hx2 _ (by decide +kernel),?_⟩;ext;refine ⟨H0,a,ss,ns,qs,S,dn,wt,.non,v,rv,l,B,rfl,h,hWb.few,I,hv,hl,hl14,fun o1 H1 s1 ho1 eo1=>?_⟩;ext;refine ⟨a.x,dx,fs,rfl,s1 _ _ hx1,hx2 _ (by decide +kernel),?_⟩;ext;refine ⟨H0,a,ss,ns,qs,S,dn,wt,.non,w,rw',l',B,rfl,h.same s1,hWb.few,I,hw,hl',hl14',fun o2 H2 s2 ho2 eo2=>?_⟩;have s02:=s1.trans s2;have h2:=h.same s02;have eo12:=s2 _ _ eo1;have no1:=h.newA ho1;have no2:=(h.same s1).newA ho2;ext;refine ⟨1,rfl,?_⟩;refine .inl (zR eo12 (v:=.str c) (by rw [elc];exact atI_last) ?_);ext;refine ⟨1,rfl,?_⟩;refine .inl (zR eo2 (v:=.str d) (by rw [eld];exact atI_last) ?_);refine qev ⟨_,rfl,?_⟩;by_cases hcd:c=d
  ·rw [yI hcd];refine yq ?_;obtain ⟨t0,et0⟩:=hl.ne;obtain ⟨t0',et0'⟩:=hl'.ne;ext;refine .inl (zR eo12 (v:=.str (S.bas v)) (qA (j:=0) (by rw [et0];rfl)) ?_);ext;refine .inl (zR eo2 (v:=.str (S.bas w)) (qA (j:=0) (by rw [et0'];rfl)) ?_);refine qev ⟨_,rfl,?_⟩;by_cases hbb:S.bas v=S.bas w
   ·rw [yI hbb];refine yq ?_;exact q1 H2 S [] (by rw [Yr];exact h2) (Bx.of s02) I hbb (Mono.refl S)
   ·rw [yl hbb];refine qai ?_;obtain ⟨l1,m,l2,el,hml',hd1,tf,etf⟩:=qc5 l' (l:=l) ⟨c,by rw [elc];simp,by rw [eld,hcd];simp⟩;obtain ⟨m1,m2,em⟩:=Yk hml';obtain ⟨e22,hd2⟩:=hl.meet I hv hw hl' el em hd1;rw [e22] at em;have hm1n:m∉m1:=fun z=>by rw [em] at hln';exact (yX.mp hln').2.2 m z m (by simp) rfl
    have hl1n:m∉l1:=fun z=>hd1 m z hml';ext;refine .inl ⟨⟨_,.of eo12⟩,jo (xs:=l.map V.str) (fun i ys J=>J=H2/\ys=((l.take i).filter fun d=>decide (d∈l')).map V.str) ⟨rfl,rfl⟩ (fun i ys J _ hp=>by rw [hp.1];exact .of eo12) (fun i y ys J hy hp=>?_) fun ys J hp=>?_⟩
    ·obtain ⟨rfl,rfl⟩:=hp;rw [yd] at hy;obtain ⟨z,hz,rfl⟩:=yn.mp hy
     have estep:(l.take (i + 1)).filter (fun d=>decide (d∈l'))=(l.take i).filter (fun d=>decide (d∈l'))++(if z∈l' then [z] else []):=by
      rw [yQ,hz,Yp];show _++[z].filter _=_;rw [yU];simp only [xU,YK]
     have hil:=(yc.mp hz).1;have hfl:=yW (fun d=>decide (d∈l')) (l.take i);rw [yR] at hfl;ext;refine qdO eo2 ⟨_,rfl,?_⟩;rw [estep];by_cases hin:z∈l'
     ·rw [yI hin,yE hin];refine qai ?_;ext;exact ⟨by rw [ya];exact qi (by omega),rfl,by rw [yG];rfl⟩
     ·rw [yl hin,yy hin,Yr];refine yq ?_;exact ⟨rfl,rfl⟩
    ·obtain ⟨rfl,rfl⟩:=hp;rw [show (l.map V.str).length=l.length from ya _,yV,etf];have htf:=yW (fun d=>decide (d∈l')) l;rw [etf] at htf;refine ⟨by rw [ya];exact yZ (qi (by omega)),fun cl hcl=>?_⟩;have s3:=qL s02 (o:=.lst ((m::tf).map V.str)) hcl;have s23:=qL (Sr J) (o:=.lst ((m::tf).map V.str)) hcl;have ecl:upd J cl (.lst ((m::tf).map V.str)) cl=some (.lst ((m::tf).map V.str)):=qb;generalize upd J cl (.lst ((m::tf).map V.str))=H3 at s3 s23 ecl;ext;refine .inl (zR ecl (v:=.str m) (qA (j:=0) rfl) ?_);have h3:=h.same s3;have eo13:=s23 _ _ eo12;have eo23:=s23 _ _ eo2;ext;refine ⟨a.x,dx,fs,rfl,s3 _ _ hx1,hx2 _ (by decide +kernel),?_⟩;ext;refine ⟨.inl ⟨rfl,_,.of eo13⟩,?_⟩;ext;refine ⟨o1,l,m,rfl,rfl,.of eo13,by rw [el];simp,_,rfl,?_⟩;rw [show l.idxOf m=l1.length by rw [el] at hln ⊢;exact qcz hln];ext;refine .inl ⟨o1,_,rfl,.of eo13,fun c1 hc1=>?_⟩;have ecut:qbG (l.map V.str) none (some ((l1.length:Nat):Int))=l1.map V.str:=by rw [qb5,el,yG,List.take_left' (by simp)]
     rw [ecut];have s4:=qL s3 (o:=.lst (l1.map V.str)) hc1;have s34:=qL (Sr H3) (o:=.lst (l1.map V.str)) hc1;have ec1:upd H3 c1 (.lst (l1.map V.str)) c1=some (.lst (l1.map V.str)):=qb;have n1:=h3.new hc1;generalize upd H3 c1 (.lst (l1.map V.str))=H4 at s4 s34 ec1;have h4:=h.same s4
     have side:∀ {x y:Str} {rx k k1:List Str},S.rows x=some rx->(∀ u∈rx,u∈ss)->Ch (pt qs) S (S.bas x) k->k=k1++m::l2->∀ c∈k1,∃ q rz t,pt qs c=some q/\S.rows q=none/\q∈ss/\rx=rz++q::t:=fun {x y rx k k1} hx hs hk ek c hc=>by
      obtain ⟨a',b',ea⟩:=Yk hc;have ek2:k=a'++c::(b'++m::l2):=by rw [ek,ea];simp
      obtain ⟨_,_,_,_,g3,_⟩:=hk.up I hx rfl ek2;rcases g3.cases' with ⟨_,z⟩ | ⟨q,_,hq,_⟩
      ·simp at z
      ·obtain ⟨rz,t,k1,_,k3,_⟩:=hk.suf I hx ek2 hq;exact ⟨q,rz,_,hq,k3,hs q (by rw [k1];simp),k1⟩
     ext;refine ⟨H0,a,ss,ns,qs,S,dn,wt,.non,v,w,c1,l1,rv,rw',rfl,h4,hWb.few,ec1,n1,hv,hw,rl14,rl14',(I.alt v rv hv).nd,?_,?_,hWb.qn,side (y:=v) hv rvs hl el,fun t1 sd1 mo1 H5 S1 h5 bx5 ht1 et1 hsd1 hsl1 hml1 R1 hg1=>?_⟩
     ·rw [el] at hln;exact (yX.mp hln).1
     ·rw [el,yt] at hl14;omega
     have no16:o1∉a.six:=fun z=>no1 (Fo.sub _ z);have no26:o2∉a.six:=fun z=>no2 (Fo.sub _ z);have eo25:=bx5 _ _ no26 (s34 _ _ eo23);ext;refine ⟨.inl ⟨rfl,_,.of et1⟩,?_⟩;ext;obtain ⟨dx5,fs5,hx15,_,_,_,hx25⟩:=id h5.obj;refine ⟨a.x,dx5,fs5,rfl,hx15,hx25 _ (by decide +kernel),?_⟩;ext;refine ⟨.inl ⟨rfl,_,.of eo25⟩,?_⟩;ext;refine ⟨o2,l',m,rfl,rfl,.of eo25,hml',_,rfl,?_⟩;rw [show l'.idxOf m=m1.length by rw [em] at hln' ⊢;exact qcz hln'];ext;refine .inl ⟨o2,_,rfl,.of eo25,fun c2 hc2=>?_⟩;have ecut2:qbG (l'.map V.str) none (some ((m1.length:Nat):Int))=m1.map V.str:=by rw [qb5,em,yG,List.take_left' (by simp)]
     rw [ecut2];have s6:=qL (Sr H5) (o:=.lst (m1.map V.str)) hc2;have ec2:upd H5 c2 (.lst (m1.map V.str)) c2=some (.lst (m1.map V.str)):=qb;have n2:=h5.new hc2;generalize upd H5 c2 (.lst (m1.map V.str))=H6 at s6 ec2;have h6:=h5.same s6
     have no1':∀ c∈m1,∀ q,pt qs c=some q->S.rows q=none->S1.rows q=none:=fun c hc q hq hn=>by
      cases e:S1.rows q with
      | none=>rfl
      | some r =>
       exfalso;rcases R1.new q r e with z | ⟨c',hc',z,_⟩
       ·rw [hn] at z;cases z
       ·have e1:=hWb.gr.fs z;rw [hWb.gr.fs hq] at e1;rw [<- ym e1] at hc';exact hd1 c hc' (by rw [em];exact yM _ hc)
     ext;refine ⟨H0,a.add t1,ss,ns,qs,S1,dn,wt++mo1,.non,w,v,c2,m1,rw',rv,rfl,h6,hWb.few,ec2,n2,R1.old _ _ hw,R1.old _ _ hv,rl14',rl14,(I.alt w rw' hw).nd,?_,?_,hWb.qn,fun c hc=>?_,fun t2 sd2 mo2 H7 S2 h7 bx7 ht2 et2 hsd2 hsl2 hml2 R2 hg2=>?_⟩
     ·rw [em] at hln';exact (yX.mp hln').1
     ·rw [em,yt] at hl14';omega
     ·obtain ⟨q,rz,t,k1,k2,k3,k4⟩:=side (y:=v) hw rws hl' em c hc;exact ⟨q,rz,t,k1,no1' c hc q k1 k2,k3,k4⟩
     have t16:t1∉a.six:=h4.new ht1;have et17:H7 t1=some (.lst (sd1.map V.str)):=bx7 _ _ t16 (s6 _ _ et1);ext;refine ⟨t1,t2,_,_,rfl,rfl,et17,et2,by rw [ya,ya,Yx];rw [el,yt] at hl14;rw [em,yt] at hl14';omega,?_⟩;have h8:=h7.updE (c:=t1) (o:=.lst (sd1.map V.str++sd2.map V.str)) (by simp [Fo.add]);obtain ⟨xs,hdg,hxl⟩:=h.rng;have hdg7:=hg2 _ (s6 _ _ (hg1 _ (s4 _ _ hdg)));have ndg:a.dg≠t1:=fun z=>t16 (by rw [<- z];simp [Fo.six]);have et8:upd H7 t1 (.lst (sd1.map V.str++sd2.map V.str)) t1=some (.lst ((sd1++sd2).map V.str)):=by rw [qb,yG]
     have hdg8:upd H7 t1 (.lst (sd1.map V.str++sd2.map V.str)) a.dg=some (.lst xs):=by rw [qe ndg];exact hdg7
     have bx8:Bx a.six H (upd H7 t1 (.lst (sd1.map V.str++sd2.map V.str))):=fun e o n k=>by
      have ne:e≠t1:=fun z=>by rw [z,s4.free ht1] at k;cases k
      rw [qe ne];exact bx7 _ _ n (s6 _ _ (bx5 _ _ n (s4 _ _ k)))
     generalize upd H7 t1 (.lst (sd1.map V.str++sd2.map V.str))=H8 at h8 et8 hdg8 bx8
     have hpos:0 < mo1.length + mo2.length:=by
      rw [hml1,hml2];rcases l1 with _ | ⟨x,r⟩
      ·rcases m1 with _ | ⟨x,r⟩
       ·rw [el] at et0;rw [em] at et0';exact absurd ((Y8 et0).1.symm.trans (Y8 et0').1) hbb
       ·simp
      ·simp;omega
     ext;obtain ⟨dx8,fs8,hx18,_,_,_,hx28⟩:=id h8.obj;refine ⟨a.x,dx8,fs8,rfl,hx18,hx28 _ (by decide +kernel),?_⟩;ext;refine ⟨H0,(a.add t1).add t2,ss,ns,qs,S2,dn,wt++mo1++mo2,.non,t1,sd1++sd2,m,xs,rfl,h8,hWb.few,et8,t16,?_,hdg8,?_,fun H9 h9 bx9=>?_⟩
     ·rw [yt,hsl1,hsl2];rw [el,yt] at hl14;rw [em,yt] at hl14';omega
     ·rw [<- Yc,<- Yc,yt,yt (as:=dn++wt)];omega
     have hrg:∀ u,u∈sd1++sd2++[m]↔InR (pt qs) m (l1++m1) u:=fun u=>by
      rw [yz,yz,hsd1,hsd2,yB];unfold InR;constructor
      ·rintro ((⟨c,hc,z⟩ | ⟨c,hc,z⟩) | z)
       ·exact .inr ⟨c,yM _ hc,z⟩
       ·exact .inr ⟨c,yK _ hc,z⟩
       ·exact .inl z
      ·rintro (z | ⟨c,hc,z⟩)
       ·exact .inr z
       ·rcases yz.mp hc with y | y
        ·exact .inl (.inl ⟨c,y,z⟩)
        ·exact .inl (.inr ⟨c,y,z⟩)
     have hb2:S2.bas=S.bas:=by rw [R2.bas,R1.bas]
     have hinS:∀ u,InR (pt qs) m (l1++m1) (S.bas u)->u∈ss:=fun u hu=>by
      cases e:S.rows u with
      | some r=>exact evS e
      | none =>
       rw [I.own e] at hu;rcases hu with z | ⟨c,hc,z⟩
       ·obtain ⟨r,k,_⟩:=hl.bs0 I hv (c:=m) (by rw [el];simp);rw [z];exact evS k
       ·have hcs:∃ r,S.rows c=some r:=by
         rcases yz.mp hc with y | y
         ·exact (hl.bs0 I hv (by rw [el];exact yM _ y)).elim fun r k=>⟨r,k.1⟩
         ·exact (hl'.bs0 I hw (by rw [em];exact yM _ y)).elim fun r k=>⟨r,k.1⟩
        obtain ⟨r,k⟩:=hcs;rcases z with z | z
        ·rw [z];exact evS k
        ·exact hWb.inn _ _ (hWb.gr.as (hWb.gr.fa z))
     have hM:Mg (pt qs) S (S2.setBas (wnL S2 ss (sd1++sd2) m) m) v w m l1 m1:=by
      have hwn:∀ u,u∈wnL S2 ss (sd1++sd2) m↔u∈ss/\InR (pt qs) m (l1++m1) (S.bas u):=fun u=>by
       unfold wnL;rw [yp,yY,hrg,hb2]
      have nr:∀ {u:Str} {r:List Str},NewRow S1 w v u r->NewRow S w v u r:=fun ⟨a1,a2,a3,a4,k1,k2,k3⟩=>by
       rw [R1.old _ _ hw] at k1;rw [R1.old _ _ hv] at k2;cases k1;cases k2;exact ⟨_,_,a3,a4,hw,hv,k3⟩
      refine ⟨by show S2.par=S.par;rw [R2.par,R1.par],fun u r e=>R2.old _ _ (R1.old _ _ e),fun u r e=>?_,fun c hc q hq=>?_,fun u hu=>?_,fun u hu=>?_⟩
      ·rcases R2.new u r e with z | ⟨c,hc,k1,k2⟩
       ·rcases R1.new u r z with z | z
        ·exact .inl z
        ·exact .inr (.inl z)
       ·exact .inr (.inr ⟨c,hc,k1,nr k2⟩)
      ·rcases yz.mp hc with y | y
       ·obtain ⟨r,k⟩:=R1.all c y q hq;exact ⟨r,R2.old _ _ k⟩
       ·exact R2.all c y q hq
      ·show (if u∈wnL S2 ss (sd1++sd2) m then m else S2.bas u)=m;rw [yE ((hwn u).mpr ⟨hinS u hu,hu⟩)]
      ·show (if u∈wnL S2 ss (sd1++sd2) m then m else S2.bas u)=S.bas u;rw [yy (fun z=>hu ((hwn u).mp z).2),hb2]
     have hI:=I.merge hWb.gr hv hw (el ▸ hl) (em ▸ hl') (em ▸ hd1) (el ▸ hd2) hvw hbb hM
     have hbv:InR (pt qs) m (l1++m1) (S.bas v):=by
      rcases l1 with _ | ⟨x,r⟩
      ·rw [el] at et0;cases et0;exact .inl rfl
      ·rw [el] at et0;cases et0;exact .inr ⟨_,by simp,.inl rfl⟩
     have hbw:InR (pt qs) m (l1++m1) (S.bas w):=by
      rcases m1 with _ | ⟨x,r⟩
      ·rw [em] at et0';cases et0';exact .inl rfl
      ·rw [em] at et0';cases et0';exact .inr ⟨_,by simp,.inl rfl⟩
     refine q1 H9 _ (mo1++mo2) ?_ (bx8.trans bx9) hI ((hM.inn v hbv).trans (hM.inn w hbw).symm) ⟨fun u z e=>?_,fun u e=>by rw [hM.par];exact e,hM.old⟩
     ·rw [<- Yc];exact h9.drop (l:=a.ex) fun c hc=>by simp [Fo.add,hc]
     ·by_cases hin:InR (pt qs) m (l1++m1) (S.bas u)
      ·rw [hM.inn u hin,hM.inn z (by rw [<- e];exact hin)]
      ·rw [hM.out u hin,hM.out z (by rw [<- e];exact hin),e]
  ·rw [yl hcd];refine qai ?_;ext;refine .inl (h2.obj.rd T 2 rfl ?_);ext;refine h2.rowAt hv fun tv etv=>?_;ext;refine qfJ ?_;ext;refine .inl (h2.obj.rd T 2 rfl ?_);ext;refine h2.rowAt hw fun tw etw=>?_;ext;refine ⟨1,rfl,?_⟩;refine ⟨_,rfl,rfl,tw,_,rfl,.of etw,fun c1 hc1=>?_⟩;have t1:=qL s02 (o:=.lst (rw'.map V.str).reverse) hc1;have t21:=qL (Sr H2) (o:=.lst (rw'.map V.str).reverse) hc1;have ec1:upd H2 c1 (.lst (rw'.map V.str).reverse) c1=some (.lst (rw'.reverse.map V.str)):=by rw [qb,kB]
   generalize upd H2 c1 (.lst (rw'.map V.str).reverse)=H3 at t1 t21 ec1;refine qec (t21 _ _ etv) ec1 (by rw [ya,ya,Yl];omega) fun c2 hc2=>?_;have n2:=(h.same t1).newA hc2;have t2:=qL t1 (o:=.lst (rv.map V.str++rw'.reverse.map V.str)) hc2;have ec2:upd H3 c2 (.lst (rv.map V.str++rw'.reverse.map V.str)) c2=some (.lst ((rv++rw'.reverse).map V.str)):=by rw [qb,yG]
   generalize upd H3 c2 (.lst (rv.map V.str++rw'.reverse.map V.str))=H4 at t2 ec2;obtain ⟨k1,k2⟩:=(h.same t2).setL (v:=.ref c2) (t2 _ _ hx1) (fun e=>by cases e);ext;refine .inl ⟨a.x,cc 9,dx,fs,rfl,t2 _ _ hx1,T.fcl,T.fa _ (by decide +kernel),k1,?_⟩;have n2x:c2≠a.x:=fun z=>n2 (Fo.sub _ (by rw [z];simp [Fo.six]));exact q2 _ c2 _ k2 ((Bx.of t2).upd (by simp [Fo.six])) (by rw [qe n2x];exact ec2) n2 (I.aug hWb.gr hv hw hl hl' (by rw [elc,eld];simpa using hcd) hvw) (by rw [yt,Yl];omega)
theorem Kc:FnScope ["self","place","other","partner"] ["self","place"] (qh qW):=fS
noncomputable def FS.setPar (S:FS) (u p:Str):FS:=⟨S.rows,fun s=>if s=u then some p else S.par s,S.bas⟩
inductive spLa (cc:Nat->Addr) (cw:Addr) (vs:List V) (H:Hp) (Q:VK) (E:XK):Prop|mk (H0:Hp) (a:Fo) (ss:List Str) (ns:List Nat) (qs:List (Str×Str)) (S:FS) (dn wt:List Str) (v:Str) (A:Str->Str->Prop) (_:vs=[.ref a.x,.str v]) (_:FoA (cc 9) cw H0 H a ss ns qs S ss (dn++[v]) wt .non) (_:Wb A ss qs) (_:(∀ s∈ss,zu s=true)) (_:(∀ (j:Nat) z u,ss[j]?=some z->(u∈inB ss 0 (ns.getD j 0)↔A z u))) (_:(∀ z∈ss,pt qs z=none->S.rows z≠none)) (_:FI A (pt qs) S) (_:CI A S (fun u=>u∈dn)) (_:(∀ (H':Hp) (S':FS) (more:List Str),FoA (cc 9) cw H0 H' a ss ns qs S' ss (dn++[v]) (wt++more) .non->Bx a.six H H'->FI A (pt qs) S'->CI A S' (fun u=>u∈dn++[v])->Mono S S'->Q .non H')) (_:∀ (H':Hp) (S':FS) (more:List Str) (t:Addr) (r:List Str),FoA (cc 9) cw H0 H' a ss ns qs S' ss (dn++[v]) (wt++more) (.ref t)->Bx a.six H H'->H' t=some (.lst (r.map V.str))->t∉a.all->Aug A (pt qs) r->r.length<=28->Q .non H')
theorem CI.on (h:CI A S Pd) (m:Mono S S'):CI A S' Pd:=h.mono m.ba m.pa fun u hu=>by
 cases e:S.rows u with
 | none=>exact absurd e hu
 | some r=>rw [m.ro u r e];exact fun z=>by cases z
theorem FoA.setP {a:Fo} {bs:List Str} {ka:List (Key×V)} {p:Str} (h:FoA (cc 9) cw H0 H a ss ns qs S bs dn wt lo) (hk:H a.da=some (.dK ka)) (hus:u∈ss) (hun:S.par u=none):FoA (cc 9) cw H0 (upd H a.da (.dK (j9 ka (Sum.inr u) (.str p)))) a ss ns qs (S.setPar u p) bs dn wt lo/\ka.length<=ss.length:=by
 obtain ⟨kr,r1,r2,r3⟩:=h.row;obtain ⟨k',p1,p2,p3⟩:=h.par;obtain ⟨k,b1,b2,b3⟩:=h.bas;obtain ⟨xs,g1,g2⟩:=h.rng;rw [hk] at p1;cases p1;obtain ⟨⟨n1,n2,n3,n4,n5⟩,⟨n6,n7,n8,n9⟩,⟨n10,n11,n12⟩,⟨n13,n14⟩,n15⟩:=(by simpa [Fo.six] using h.sep:(¬a.x=a.dr/\¬a.x=a.da/\¬a.x=a.ds/\¬a.x=a.dg/\¬a.x=a.dw)/\(¬a.dr=a.da/\¬a.dr=a.ds/\¬a.dr=a.dg/\¬a.dr=a.dw)/\(¬a.da=a.ds/\¬a.da=a.dg/\¬a.da=a.dw)/\(¬a.ds=a.dg/\¬a.ds=a.dw)/\¬a.dg=a.dw);have bx:Bx a.six H (upd H a.da (.dK (j9 ka (Sum.inr u) (.str p)))):=(Bx.of (Sr H)).upd (by simp [Fo.six]);obtain ⟨po,o1,o2,o3⟩:=p2;refine ⟨⟨qaa h.sm (h.fr _ (by simp [Fo.six])),h.web,h.prt,h.fr,h.nd,fun c hc=>⟨(h.exf c hc).1,(h.exf c hc).2.1,(h.exf c hc).2.2.elim fun o e=>⟨o,bx _ _ (h.exf c hc).2.1 e⟩⟩,h.obj.eq (qe n2),⟨kr,by rw [qe n6];exact r1,r2,fun y=>(r3 y).mono bx Fo.sub⟩,⟨_,qb,⟨po++[u],by have:=jt ka (Sum.inr u:Key) (.str p);rw [yt];show _<=_ + 1;omega,yX.mpr ⟨o2,List.pairwise_singleton _ _,fun x hx y hy e=>(o3 u (by rw [<- yB.mp hy,<- e];exact hx)).2 hun⟩,fun x hx=>?_⟩,fun s=>?_⟩,⟨k,by rw [qe (Ye n10)];exact b1,b2,b3⟩,⟨xs,by rw [qe (Ye n11)];exact g1,g2⟩,by rw [qe (Ye n12)];exact h.wai,h.evn,h.evi,h.evs⟩,yi o1 (ze o2 fun x hx=>(o3 x hx).1)⟩
 ·show x∈ss/\(if x=u then some p else S.par x)≠none;by_cases e:x=u
  ·rw [yE e,e];exact ⟨hus,fun z=>by cases z⟩
  ·rw [yy e];exact o3 x ((yz.mp hx).resolve_right fun z=>e (yB.mp z))
 ·rw [qaf,p3];show _=(if s=u then some p else S.par s).map V.str;by_cases e:s=u
  ·subst e;rw [yE rfl,yE rfl];rfl
  ·rw [yy (fun x=>e (Y7 x)),yy e]
theorem ok_la (F:Fun K "look_around" "Forest.look_around" qW f fd) (T:Txt K mg cc cw) (KD:MethOk P w K mg base CX0 6 cw "beside" ["self","place"] (spBs cw)) (KG:MethOk P w K mg base CX0 3 (cc 9) "bring_together" ["self","one","other"] (spBt cc cw)) (Kb:MethOk P w K mg base CX0 1 (cc 9) "reach" ["self","place","row"] (spRe cc cw)):FnOk P w K mg base CX0 7 f fd ["self","place"] (spLa cc cw):=by
 refine F.ok Kc fun _ _ _ s H vs Q E hr h=>?_
 ·obtain ⟨H0,a,ss,ns,qs,S,dn,wt,v,B,rfl,h,hWb,hnm,hbs,hsg,I,hC,q1,q2⟩:=h;have hu:=za hr;refine ⟨_,(qf (q9 yP rfl (jg (K:=K) rfl (qG KD (hmR hr) (qB (K:=K) rfl (pv 0) rfl) (qa (pv 1) qd))) (qr (i:=2) Kc.nd rfl (yJ rfl))
 (qc (qP (qp (zW (K:=K) rfl hu) (pv 2) (qB (K:=K) rfl (pv 0) rfl) (by with_unfolding_all rfl)) (qf (qM (qG KG (hmR hr) (pv 0) (qa (pv 1) (qa (pv 2) qd))))) (qf (qP (qp (qbv (K:=K) rfl hu) (pv 2) (qB (K:=K) rfl (pv 0) rfl) (by with_unfolding_all rfl)) (qc (qo (i:=3) Kc.nd rfl (yJ rfl) (qx (qy (K:=K) rfl hu) (qB (K:=K) rfl (pv 0) rfl) (pv 2) (fun _ _=>rfl)))
 (qc (jG (pv 1) (jL (qB (K:=K) rfl (pv 0) rfl) (pv 2) (jM hu)))
 (qf (qM (qG Kb (hmR hr) (pv 0) (qa (pv 3) (qa (qC (zc (K:=K) rfl) (qx (qy (K:=K) rfl hu) (qB (K:=K) rfl (pv 0) rfl) (pv 1) (fun _ _=>rfl)) (je (qa (pv 2) (qa (pv 3) qd)))) qd))))))) qv)))
 (qf (qP (qp qco (qB (K:=K) rfl (pv 0) rfl) zS (qD _)) (qf ps_retN) qv))))),?_⟩
  have hvs:v∈ss:=h.evs v (by simp)
  obtain ⟨rv,hrv⟩:∃ r,S.rows v=some r:=by
   cases e:S.rows v with
   | none=>exact absurd e ((h.evi v).mp (by simp))
   | some r=>exact ⟨r,rfl⟩
  obtain ⟨j,hj⟩:=yf hvs;have hWt:=h.web.same h.sm;obtain ⟨wx,dd,ol,nn,hb,_⟩:=id hWt;ext;refine .inl (h.obj.rd T 0 rfl ?_);refine ⟨a.b,wx,_,rfl,hb,jY (by decide +kernel),?_⟩;ext;refine ⟨a.b,ss,ns,v,j,rfl,hWt,hj,fun H1 s1 bl hbl=>?_⟩;have hbes:=fun u=>hbs j v u hj;have hbl14:(inB ss 0 (ns.getD j 0)).length<=14:=yi (qa5 _ _ _) hWb.few;generalize inB ss 0 (ns.getD j 0)=bes at hbes hbl14 ⊢;have nbl:=(h.same s1).new hbl;have s2:=qL s1 (o:=.lst (bes.map V.str)) hbl;have eb:upd H1 bl (.lst (bes.map V.str)) bl=some (.lst (bes.map V.str)):=qb;generalize upd H1 bl (.lst (bes.map V.str))=H2 at s2 eb;have h2:=h.same s2;refine .inl ⟨⟨_,.of eb⟩,jj (xs:=bes.map V.str) (fun i σ J=>∃ (S':FS) (more:List Str) (y2 y3:Option V),σ=[some (.ref a.x),some (.str v),y2,y3]/\FoA (cc 9) cw H0 J a ss ns qs S' ss (dn++[v]) (wt++more) .non/\Bx a.six H2 J/\FI B (pt qs) S'/\Mono S S'/\∀ u∈bes.take i,S'.bas u=S'.bas v\/(S'.par u≠none/\u∉dn++[v])) ⟨S,[],_,_,rfl,by rw [Yr];exact h2,fun _ _ _ e=>e,I,Mono.refl S,(fun u hu=>by simp at hu)⟩ (fun i σ J _ hp=>?_) (fun i y σ J hy hp=>?_) fun σ J hp=>?_⟩
  ·obtain ⟨S',more,y2,y3,rfl,_,bx,_⟩:=hp;exact .of (bx _ _ nbl eb)
  ·obtain ⟨S',more,y2,y3,rfl,hJ,bx,I',hM,hP⟩:=hp;rw [yd] at hy;obtain ⟨u,hu9,rfl⟩:=yn.mp hy;have hvu:B v u:=(hbes u).mp (ye hu9);have hus:u∈ss:=hWb.inn _ _ (hWb.gr.as hvu);have hrv':=hM.ro v rv hrv;have htk:bes.take (i + 1)=bes.take i++[u]:=by rw [yQ,hu9];rfl
   obtain ⟨kr,r1,r2,r3⟩:=hJ.row;have hru:=r3 u;ext;refine .inl (hJ.obj.rd T 2 rfl ?_);refine .inr (.inl ⟨a.dr,_,rfl,DGet.k (k:=Sum.inr u) r1,?_⟩)
   cases eu:S'.rows u with
   | some ru =>
    rw [eu] at hru;obtain ⟨tu,k1,k2,_⟩:=hru;rw [k1];refine ⟨_,rfl,qai ?_⟩;ext;obtain ⟨dx,fs,hx1,_,_,_,hx2⟩:=id hJ.obj;refine ⟨a.x,dx,fs,rfl,hx1,hx2 _ (by decide +kernel),?_⟩;ext;refine ⟨H0,a,ss,ns,qs,S',dn++[v],wt++more,v,u,rv,ru,B,rfl,hJ,hWb,I',hrv',eu,hvu,fun H5 S5 mo5 h5 bx5 I5 hb5 m5=>?_,fun H5 t5 r5 h5 bx5 e5 n5 hA5 hl5=>?_⟩
    ·ext;refine .inl (h5.obj.rd T 7 rfl ?_);ext;refine ⟨rfl,_,rfl,qU (fun h=>by simp at h) fun _=>?_⟩;refine ⟨S5,more++mo5,_,_,rfl,by rw [<- Yc wt];exact h5,bx.trans bx5,I5,hM.trans m5,fun z hz=>?_⟩;rw [htk] at hz;rcases yz.mp hz with hz | hz
     ·exact (hP z hz).imp (m5.ba z v) fun y=>⟨m5.pa z y.1,y.2⟩
     ·rw [yB.mp hz];exact .inl hb5.symm
    ·ext;refine .inl (h5.obj.rd T 7 rfl ?_);ext;refine ⟨rfl,_,rfl,qai ?_⟩;exact q2 H5 S' more t5 r5 h5 (((Bx.of s2).trans bx).trans bx5) e5 n5 hA5 hl5
   | none =>
    rw [eu] at hru;have hru':jJ kr (.inr u:Key)=none:=hru;rw [hru'];have hud:u∉dn++[v]:=fun z=>(hJ.evi u).mp (yM _ z) eu;refine ⟨_,rfl,qU (fun h=>by cases h) fun _=>?_⟩;obtain ⟨ka,p1,p2,p3⟩:=hJ.par;ext;refine .inl (hJ.obj.rd T 3 rfl ?_);refine .inr (.inl ⟨a.da,_,rfl,DGet.k (k:=Sum.inr u) p1,?_⟩);rw [p3]
    cases ep:S'.par u with
    | some z =>
     refine ⟨_,rfl,qU (fun h=>by cases h) fun _=>?_⟩;ext;refine .inl (hJ.obj.rd T 7 rfl ?_);ext;refine ⟨rfl,_,rfl,qU (fun h=>by simp at h) fun _=>?_⟩;refine ⟨S',more,_,_,rfl,hJ,bx,I',hM,fun z hz=>?_⟩;rw [htk] at hz;rcases yz.mp hz with hz | hz
     ·exact hP z hz
     ·rw [yB.mp hz];exact .inr ⟨by rw [ep];exact (fun y=>by cases y),hud⟩
    | none =>
     refine ⟨_,rfl,qai ?_⟩
     obtain ⟨y,hy9⟩:∃ y,pt qs u=some y:=by
      cases e:pt qs u with
      | some y=>exact ⟨y,rfl⟩
      | none =>
       exfalso;have k:=hsg u hus e
       cases e2:S.rows u with
       | none=>exact k e2
       | some r=>rw [hM.ro u r e2] at eu;cases eu
     have hys:y∈ss:=hWb.inn _ _ (hWb.gr.as (hWb.gr.fa hy9));have hyn:=I'.fresh hWb.gr eu ep hy9;have hpJ:=hJ.sm _ _ h.prt;obtain ⟨h3,hkl⟩:=hJ.setP (p:=v) p1 hus ep;have hss:=hWb.few;ext;refine .inl (hJ.obj.rd T 1 rfl ?_);ext;refine qd4 hpJ (by rw [jD,hy9];rfl) ?_;ext;refine .inl (hJ.obj.rd T 3 rfl ?_);ext;refine .inr ⟨a.da,_,rfl,DPut.k (k:=Sum.inr u) p1 (by rw [Yx];omega),?_⟩;have bx3:Bx a.six H2 (upd J a.da (.dK (j9 ka (Sum.inr u) (.str v)))):=bx.upd (by simp [Fo.six]);generalize upd J a.da (.dK (j9 ka (Sum.inr u) (.str v)))=J3 at h3 bx3;ext;obtain ⟨dx,fs,hx1,_,_,_,hx2⟩:=id h3.obj;refine ⟨a.x,dx,fs,rfl,hx1,hx2 _ (by decide +kernel),?_⟩;ext;refine .inl (h3.obj.rd T 2 rfl ?_);ext;refine h3.rowAt (S:=S'.setPar u v) hrv' fun tv etv=>?_;ext;refine ⟨by show 2<=sizeLine;decide,fun c1 hc1=>?_⟩;have t1:=qL (Sr J3) (o:=.lst [.str u,.str y]) hc1;have ec1:upd J3 c1 (.lst [.str u,.str y]) c1=some (.lst [.str u,.str y]):=qb;generalize upd J3 c1 (.lst [.str u,.str y])=J4 at t1 ec1;have hrl:=((I'.alt v rv hrv').inn hWb hvs).1;refine qec (t1 _ _ etv) ec1 (by rw [ya];show _ + 2<=_;omega) fun c2 hc2=>?_;have n2:=(h3.same t1).newA hc2;have t2:=qL t1 (o:=.lst (rv.map V.str++[.str u,.str y])) hc2;have ec2:upd J4 c2 (.lst (rv.map V.str++[.str u,.str y])) c2=some (.lst ((rv++[u,y]).map V.str)):=by rw [qb,yG];rfl
     generalize upd J4 c2 (.lst (rv.map V.str++[.str u,.str y]))=J5 at t2 ec2;ext;refine ⟨H0,a,ss,ns,qs,S'.setPar u v,ss,dn++[v],wt++more,.non,y,c2,rv++[u,y],rfl,h3.same t2,hWb.few,ec2,n2,hys,hyn,fun H6 h6 bx6 _=>?_⟩;have W:Gw S' ((S'.setPar u v).setRow y (rv++[u,y])) v u y rv:=⟨yE rfl,fun s hs=>yy hs,yE rfl,fun s hs=>yy hs,rfl⟩;have I6:=I'.grow hWb.gr hrv' hvu eu ep hy9 W
     have m6:Mono S' ((S'.setPar u v).setRow y (rv++[u,y])):=⟨fun _ _ e=>e,fun z hz=>by
      show (if z=u then some v else S'.par z)≠none;split
      ·exact fun x=>by cases x
      ·exact hz,fun z r e=>by rw [W.ro z (fun x=>by rw [x,hyn] at e;cases e)];exact e⟩
     ext;refine .inl (h6.obj.rd T 7 rfl ?_);ext;refine ⟨rfl,_,rfl,qU (fun h=>by simp at h) fun _=>?_⟩;refine ⟨_,more++[y],_,_,rfl,by rw [<- Yc wt];exact h6,(bx3.trans (Bx.of t2)).trans bx6,I6,hM.trans m6,fun z hz=>?_⟩;rw [htk] at hz;rcases yz.mp hz with hz | hz
     ·exact (hP z hz).imp (m6.ba z v) fun y=>⟨m6.pa z y.1,y.2⟩
     ·rw [yB.mp hz];exact .inr ⟨by rw [W.pu];exact (fun x=>by cases x),hud⟩
  ·obtain ⟨S',more,y2,y3,rfl,hJ,bx,I',hM,hP⟩:=hp;rw [ya,yV] at hP;refine q1 J S' more hJ ((Bx.of s2).trans bx) I' ?_ hM;have hC':=hC.on hM;refine ⟨fun z u hz hzu=>?_,fun z hz=>?_⟩
   ·rcases yz.mp hz with hz1 | hz1
    ·by_cases huv:u=v
     ·rw [huv] at hzu ⊢;rcases hP z ((hbes z).mpr (hWb.gr.as hzu)) with y | y
      ·exact .inl y.symm
      ·exact absurd (yM _ hz1) y.2
     ·rcases hC'.cl z u hz1 hzu with y | ⟨y1,y2⟩
      ·exact .inl y
      ·exact .inr ⟨y1,fun x=>(yz.mp x).elim y2 fun x=>huv (yB.mp x)⟩
    ·rw [yB.mp hz1] at hzu ⊢;exact hP u ((hbes u).mpr hzu)
   ·exact (hJ.evi z).mp (yM _ hz)
theorem KI:FnScope ["self","place"] ["self"] (qh jR):=fS
structure FoD (cf cw:Addr) (H0 H:Hp) (a:Fo) (ss:List Str) (ns:List Nat) (qs:List (Str×Str)) (S:FS) (dn wt:List Str) (lo:V) (A:Str->Str->Prop):Prop where
 fo:FoA cf cw H0 H a ss ns qs S ss dn wt lo
 en:(lo=.non/\wt=[]/\FI A (pt qs) S/\CI A S (fun u=>u∈dn)/\∀ z∈ss,pt qs z=none->S.rows z≠none)\/∃ t r,lo=.ref t/\H t=some (.lst (r.map V.str))/\t∉a.all/\Aug A (pt qs) r/\r.length<=28
noncomputable def S0:FS:=⟨fun _=>none,fun _=>none,fun s=>s⟩
noncomputable def SI (qs:List (Str×Str)) (l:List Str):FS:=⟨fun s=>if s∈l/\pt qs s=none then some [s] else none,fun _=>none,fun s=>s⟩
theorem SI_nil (qs:List (Str×Str)):SI qs []=S0:=by unfold SI S0;simp
theorem SI_on {l:List Str} (h:pt qs z=none):SI qs (l++[z])=(SI qs l).setRow z [z]:=by
 unfold SI FS.setRow
 congr 1
 funext s;dsimp only;by_cases e:s=z
 ·subst e;rw [yE ⟨by simp,h⟩,yE rfl]
 ·rw [yy e];have:s∈l++[z]↔s∈l:=by simp [e]
  simp only [this]
theorem SI_off {l:List Str} (h:pt qs z≠none):SI qs (l++[z])=SI qs l:=by
 unfold SI
 congr 1
 funext s;by_cases e:s=z
 ·subst e;rw [yy (fun k=>h k.2),yy (fun k=>h k.2)]
 ·have:s∈l++[z]↔s∈l:=by simp [e]
  simp only [this]
inductive spGw (cc:Nat->Addr) (cw:Addr) (vs:List V) (H:Hp) (Q:VK) (E:XK):Prop|mk (H0:Hp) (a:Fo) (ss:List Str) (ns:List Nat) (qs:List (Str×Str)) (A:Str->Str->Prop) (_:vs=[.ref a.x]) (_:FoA (cc 9) cw H0 H a ss ns qs S0 [] [] [] .non) (_:Wb A ss qs) (_:(∀ s∈ss,zu s=true)) (_:(∀ (j:Nat) z u,ss[j]?=some z->(u∈inB ss 0 (ns.getD j 0)↔A z u))) (_:∀ (H':Hp) (S:FS) (dn wt:List Str) (lo:V),FoD (cc 9) cw H0 H' a ss ns qs S dn wt lo A->Bx a.six H H'->Q .non H')
theorem ix_natF {k:Nat} (h:k < n):seqIndex? (k:Int) n=some k:=by
 unfold seqIndex?;simp;omega
theorem nin_prF {d:Addr} {Q:VK} (hd:H d=some (.dK (prK qs))) (q:Q (.bl (!(pt qs s).isSome)) H):qd2 K true (.str s) (.ref d) H Q:=by
 refine .inr (.inl ⟨d,_,rfl,DGet.k (k:=Sum.inr s) hd,?_⟩);rw [jD,yE rfl,xT];exact q
theorem FoA.ne {a:Fo} {bs:List Str} (h:FoA (cc 9) cw H0 H a ss ns qs S bs dn wt lo):(¬a.x=a.dr/\¬a.x=a.da/\¬a.x=a.ds/\¬a.x=a.dg/\¬a.x=a.dw)/\(¬a.dr=a.da/\¬a.dr=a.ds/\¬a.dr=a.dg/\¬a.dr=a.dw)/\(¬a.da=a.ds/\¬a.da=a.dg/\¬a.da=a.dw)/\(¬a.ds=a.dg/\¬a.ds=a.dw)/\¬a.dg=a.dw:=by simpa [Fo.six] using h.sep
theorem FoA.setN {a:Fo} {bs:List Str} {ks:List (Key×V)} (h:FoA (cc 9) cw H0 H a ss ns qs S bs dn wt lo) (hk:H a.ds=some (.dK ks)) (hz:S.bas z=z):FoA (cc 9) cw H0 (upd H a.ds (.dK (j9 ks (Sum.inr z) (.str z)))) a ss ns qs S (bs++[z]) dn wt lo/\ks.length<=bs.length:=by
 obtain ⟨kr,r1,r2,r3⟩:=h.row;obtain ⟨ka,p1,p2,p3⟩:=h.par;obtain ⟨k,b1,b2,b3⟩:=h.bas;obtain ⟨xs,g1,g2⟩:=h.rng;rw [hk] at b1;cases b1;obtain ⟨⟨n1,n2,n3,n4,n5⟩,⟨n6,n7,n8,n9⟩,⟨n10,n11,n12⟩,⟨n13,n14⟩,n15⟩:=h.ne;have bx:Bx a.six H (upd H a.ds (.dK (j9 ks (Sum.inr z) (.str z)))):=(Bx.of (Sr H)).upd (by simp [Fo.six]);refine ⟨⟨qaa h.sm (h.fr _ (by simp [Fo.six])),h.web,h.prt,h.fr,h.nd,fun c hc=>⟨(h.exf c hc).1,(h.exf c hc).2.1,(h.exf c hc).2.2.elim fun o e=>⟨o,bx _ _ (h.exf c hc).2.1 e⟩⟩,h.obj.eq (qe n3),⟨kr,by rw [qe n7];exact r1,r2,fun y=>(r3 y).mono bx Fo.sub⟩,⟨ka,by rw [qe n10];exact p1,p2,p3⟩,⟨_,qb,by have:=jt ks (Sum.inr z:Key) (.str z);rw [yt];show _<=_ + 1;omega,fun u hu=>?_⟩,⟨xs,by rw [qe (Ye n13)];exact g1,g2⟩,by rw [qe (Ye n14)];exact h.wai,h.evn,h.evi,h.evs⟩,b2⟩;rw [qaf];by_cases e:u=z
 ·subst e;rw [yE rfl,hz]
 ·rw [yy (fun x=>e (Y7 x))];exact b3 u ((yz.mp hu).resolve_right fun y=>e (yB.mp y))
theorem FoA.pop {a:Fo} {bs:List Str} (h:FoA (cc 9) cw H0 H a ss ns qs S bs dn (v::wt) lo):FoA (cc 9) cw H0 (upd H a.dw (.lst (wt.map V.str))) a ss ns qs S bs (dn++[v]) wt lo:=by
 obtain ⟨kr,r1,r2,r3⟩:=h.row;obtain ⟨ka,p1,p2,p3⟩:=h.par;obtain ⟨k,b1,b2,b3⟩:=h.bas;obtain ⟨xs,g1,g2⟩:=h.rng;obtain ⟨⟨n1,n2,n3,n4,n5⟩,⟨n6,n7,n8,n9⟩,⟨n10,n11,n12⟩,⟨n13,n14⟩,n15⟩:=h.ne;have el:dn++[v]++wt=dn++v::wt:=by simp
 have bx:Bx a.six H (upd H a.dw (.lst (wt.map V.str))):=(Bx.of (Sr H)).upd (by simp [Fo.six]);exact ⟨qaa h.sm (h.fr _ (by simp [Fo.six])),h.web,h.prt,h.fr,h.nd,fun c hc=>⟨(h.exf c hc).1,(h.exf c hc).2.1,(h.exf c hc).2.2.elim fun o e=>⟨o,bx _ _ (h.exf c hc).2.1 e⟩⟩,h.obj.eq (qe n5),⟨kr,by rw [qe n9];exact r1,by rw [el];exact r2,fun y=>(r3 y).mono bx Fo.sub⟩,⟨ka,by rw [qe n12];exact p1,p2,p3⟩,⟨k,by rw [qe n14];exact b1,b2,b3⟩,⟨xs,by rw [qe n15];exact g1,by rw [el];exact g2⟩,qb,by rw [el];exact h.evn,by rw [el];exact h.evi,by rw [el];exact h.evs⟩
theorem ok_gw (F:Fun K "grow" "Forest.grow" jR f fd) (T:Txt K mg cc cw) (k8:MethOk P w K mg base CX0 1 cw "places" ["self"] (spPls cw)) (Kb:MethOk P w K mg base CX0 1 (cc 9) "reach" ["self","place","row"] (spRe cc cw)) (KJ:MethOk P w K mg base CX0 7 (cc 9) "look_around" ["self","place"] (spLa cc cw)):FnOk P w K mg base CX0 8 f fd ["self"] (spGw cc cw):=by
 refine F.ok KI fun _ _ _ _ H vs Q E hr h=>?_
 ·obtain ⟨H0,a,ss,ns,qs,B,rfl,h,hWb,hnm,hbs,q⟩:=h;have hu:=za hr;have hss:=hWb.few;refine ⟨_,(qc (q9 yP rfl (jg (K:=K) rfl (qZ k8 (hmR hr) (qB (K:=K) rfl (pv 0) rfl))) (qr (i:=1) KI.nd rfl (yJ rfl))
 (qc (jG (pv 1) (jL (qB (K:=K) rfl (pv 0) rfl) (pv 1) (jM hu)))
 (qf (qP (qp (qbv (K:=K) rfl hu) (pv 1) (qB (K:=K) rfl (pv 0) rfl) (by with_unfolding_all rfl)) (qf (qM (qG Kb (hmR hr) (pv 0) (qa (pv 1) (qa (je (qa (pv 1) qd)) qd))))) qv))))
 (qf (qbq yP (PW.pt (qbd (qp qdb (qk (zr (K:=K) rfl) rfl T.b_len Y0 (qa (qB (K:=K) rfl (pv 0) rfl) qd)) qg (qD _)) (qaP (qp qf6 (qB (K:=K) rfl (pv 0) rfl) zS (qD _)))))
 (qf (qM (qG KJ (hmR hr) (pv 0) (qa (qbj (K:=K) rfl yN PySem.F.slot_list_pop PySem.F.type_list_pop mtR_popAt (qB (K:=K) rfl (pv 0) rfl) (qa qg qd)) qd))))))),?_⟩
  have hWt:=h.web.same h.sm;obtain ⟨wx,dd,ol,nn,hb,_⟩:=id hWt;ext;refine .inl (h.obj.rd T 0 rfl ?_);refine ⟨a.b,wx,_,rfl,hb,jY (by decide +kernel),?_⟩;ext;refine ⟨a.b,ss,ns,rfl,hWt,fun pl hpl=>?_⟩;have npl:=h.new hpl;have s1:=qL (Sr H) (o:=.lst (ss.map V.str)) hpl;have e1:upd H pl (.lst (ss.map V.str)) pl=some (.lst (ss.map V.str)):=qb;generalize upd H pl (.lst (ss.map V.str))=H1 at s1 e1;refine .inl ⟨⟨_,.of e1⟩,jj (xs:=ss.map V.str) (fun i σ J=>∃ (wl:List Str) (y1:Option V),σ=[some (.ref a.x),y1]/\FoA (cc 9) cw H0 J a ss ns qs (SI qs (ss.take i)) (ss.take i) [] wl .non/\Bx a.six H1 J) ⟨[],_,rfl,by rw [X4,SI_nil];exact h.same s1,fun _ _ _ e=>e⟩ (fun i σ J _ hp=>?_) (fun i y σ J hy hp=>?_) fun σ J hp=>?_⟩
  ·obtain ⟨wl,y1,rfl,_,bx⟩:=hp;exact .of (bx _ _ npl e1)
  ·obtain ⟨wl,y1,rfl,hJ,bx⟩:=hp;rw [yd] at hy;obtain ⟨z,hz,rfl⟩:=yn.mp hy;have hil:=(yc.mp hz).1;have hzs:=ye hz;have htk:ss.take (i + 1)=ss.take i++[z]:=by rw [yQ,hz];rfl
   obtain ⟨ks,b1,b2,b3⟩:=hJ.bas;rw [yR] at b2;obtain ⟨h2,_⟩:=hJ.setN (z:=z) b1 rfl;ext;refine .inl (hJ.obj.rd T 4 rfl ?_);ext;refine .inr ⟨a.ds,_,rfl,DPut.k (k:=Sum.inr z) b1 (by rw [Yx];omega),?_⟩;have bx2:Bx a.six H1 (upd J a.ds (.dK (j9 ks (Sum.inr z) (.str z)))):=bx.upd (by simp [Fo.six]);generalize upd J a.ds (.dK (j9 ks (Sum.inr z) (.str z)))=J2 at h2 bx2;have hp2:=h2.sm _ _ h.prt;ext;refine .inl (h2.obj.rd T 1 rfl ?_);refine nin_prF hp2 ⟨_,rfl,?_⟩
   cases ez:pt qs z with
   | some y =>
    refine yq ?_;exact ⟨wl,_,rfl,by rw [htk,SI_off (by rw [ez];exact fun k=>nomatch k)];exact h2,bx2⟩
   | none =>
    refine qai ?_;ext;obtain ⟨dx,fs,hx1,_,_,_,hx2⟩:=id h2.obj;refine ⟨a.x,dx,fs,rfl,hx1,hx2 _ (by decide +kernel),?_⟩;ext;refine ⟨by show 1<=sizeLine;decide,fun c1 hc1=>?_⟩;have n1:=h2.newA hc1;have t1:=qL (Sr J2) (o:=.lst [.str z]) hc1;have ec1:upd J2 c1 (.lst [.str z]) c1=some (.lst ([z].map V.str)):=qb;generalize upd J2 c1 (.lst [.str z])=J3 at t1 ec1
    have hzn:z∉ss.take i:=fun y=>by
     obtain ⟨j,hj⟩:=yf y;have hjl:=(yc.mp hj).1;rw [yR] at hjl;rw [List.getElem?_take,yE (by omega)] at hj;have:=qw hWb.nd hj hz;omega
    ext;refine ⟨H0,a,ss,ns,qs,SI qs (ss.take i),ss.take i++[z],[],wl,.non,z,c1,[z],rfl,h2.same t1,hss,ec1,n1,hzs,yy (fun k=>hzn k.1),fun H6 h6 bx6 _=>?_⟩;exact ⟨wl++[z],_,rfl,by rw [htk,SI_on ez];exact h6,(bx2.trans (Bx.of t1)).trans bx6⟩
  ·obtain ⟨wl,y1,rfl,hJ,bx⟩:=hp;rw [ya,yV] at hJ;have bx0:Bx a.six H J:=(Bx.of s1).trans bx
   have IJ:FI B (pt qs) (SI qs ss):=FI.start (fun v r e=>by
    have e':(if v∈ss/\pt qs v=none then some [v] else none)=some r:=e;split at e'
    ·rename_i k;exact ⟨k.2,(ym e').symm⟩
    ·cases e') (fun _=>rfl) fun _=>rfl
   ext;obtain ⟨W,hW0⟩:∃ W:Nat->L2.St->Hp->Prop,W=fun m σ J=>∃ (S:FS) (dn wt:List Str) (lo:V) (y1:Option V),σ=[some (.ref a.x),y1]/\Bx a.six H J/\((lo=.non/\m=15 - dn.length/\FoA (cc 9) cw H0 J a ss ns qs S ss dn wt .non/\FI B (pt qs) S/\CI B S (fun u=>u∈dn)/\∀ z∈ss,pt qs z=none->S.rows z≠none)\/(lo≠.non/\m=0/\FoD (cc 9) cw H0 J a ss ns qs S dn wt lo B)):=⟨_,rfl⟩;refine ⟨W,⟨15,by rw [hW0];exact ⟨SI qs ss,[],wl,.non,_,rfl,bx0,.inl ⟨rfl,rfl,hJ,IJ,⟨(fun v u k=>by cases k),(fun v k=>by cases k)⟩,fun z hz e=>by show (if _ then _ else _)≠none;rw [yE ⟨hz,e⟩];exact fun k=>by cases k⟩⟩⟩,fun m σ J hW=>?_⟩;rw [hW0] at hW;obtain ⟨S,dn,wt,lo,y1',rfl,bxJ,hcase⟩:=hW;rcases hcase with ⟨rfl,hm,hF,I,hC,hsg⟩ | ⟨hlo,hm,hD⟩
   ·have hwai:=hF.wai;ext;refine .inl (hF.obj.rd T 6 rfl ?_);ext;refine qeL hwai ?_;rw [ya];ext
    cases wt with
    | nil =>
     refine qU (fun h=>by simp at h) fun _=>qU (fun h=>by cases h) fun _=>?_;exact q J S dn [] .non ⟨hF,.inl ⟨rfl,rfl,I,hC,hsg⟩⟩ bxJ
    | cons v wt =>
     refine qU (fun _=>?_) fun h=>absurd (yI (by simp)) h;ext;refine .inl (hF.obj.rd T 7 rfl ?_);ext;refine ⟨_,rfl,qai ⟨fun σ' H'=>∃ m',m' < m/\W m' σ' H',fun _ _ z=>z,?_⟩⟩;have hdl:dn.length + 1<=14:=by have:=hF.few;rw [yt,yC] at this;omega
     ext;obtain ⟨dx,fs,hx1,_,_,_,hx2⟩:=id hF.obj;refine ⟨a.x,dx,fs,rfl,hx1,hx2 _ (by decide +kernel),?_⟩;ext;refine .inl (hF.obj.rd T 6 rfl ?_);refine ⟨.inl ⟨rfl,_,.of hwai⟩,?_⟩;ext;refine ⟨a.dw,_,0,0,.str v,rfl,rfl,hwai,by decide,by decide,by rw [ya];exact ix_natF (by simp),rfl,?_⟩;have hp:=hF.pop;have bxp:Bx a.six H (upd J a.dw (.lst (wt.map V.str))):=bxJ.upd (by simp [Fo.six]);ext;show spLa cc cw _ (upd J a.dw (.lst (wt.map V.str))) _ _;generalize upd J a.dw (.lst (wt.map V.str))=J2 at hp bxp;refine ⟨H0,a,ss,ns,qs,S,dn,wt,v,B,rfl,hp,hWb,hnm,hbs,hsg,I,hC,fun H5 S5 mo h5 bx5 I5 C5 m5=>?_,fun H5 S5 mo t5 r5 h5 bx5 e5 n5 hA5 hl5=>?_⟩
     ·refine ⟨15 - (dn++[v]).length,by rw [hm,yt];show _ - (_ + 1) < _;omega,?_⟩;rw [hW0]
      exact ⟨S5,dn++[v],wt++mo,.non,_,rfl,bxp.trans bx5,.inl ⟨rfl,rfl,h5,I5,C5,fun z hz e=>(by
       have k:=hsg z hz e
       cases e2:S.rows z with
       | none=>exact absurd e2 k
       | some r=>rw [m5.ro z r e2];exact fun x=>by cases x)⟩⟩
     ·refine ⟨0,by omega,?_⟩;rw [hW0];exact ⟨S5,dn++[v],wt++mo,.ref t5,_,rfl,bxp.trans bx5,.inr ⟨(fun e=>by cases e),rfl,⟨h5,.inr ⟨t5,r5,rfl,e5,n5,hA5,hl5⟩⟩⟩⟩
   ·have hwai:=hD.fo.wai;rcases hD.en with k | ⟨t,r,rfl,_⟩
    ·exact absurd k.1 hlo
    ext;refine .inl (hD.fo.obj.rd T 6 rfl ?_);ext;refine qeL hwai ?_;ext;refine qU (fun _=>?_) (fun _=>qU (fun h=>by cases h) fun _=>q J S dn wt _ hD bxJ);ext;refine .inl (hD.fo.obj.rd T 7 rfl ?_);ext;refine ⟨_,rfl,qU (fun h=>by cases h) fun _=>?_⟩;exact q J S dn wt _ hD bxJ
theorem K8:FnScope ["self","web","pairs"] ["self","web","pairs"] (qh jS):=fS
theorem ue:FnScope ["self"] ["self"] (qh j7):=fS
theorem KU:FnScope ["self"] ["self"] (qh jc):=fS
noncomputable def qeR (p:Addr) (H:Hp):Hp:=fun b=>if b=p then none else H b
theorem zo {b:Addr} (h:b≠p):qeR p H b=H b:=yy h
theorem lkn {f g:Str} {v:V} {fs:List (Str×V)} (h:f≠g) (k:fs.lookup f=none):(qE g v fs).lookup f=none:=by rw [qz,yy h];exact k
inductive spFi (cc:Nat->Addr) (cw:Addr) (vs:List V) (H:Hp) (Q:VK) (E:XK):Prop|mk (x dx b r:Addr) (ss:List Str) (ns:List Nat) (us:List Addr) (tps qs:List (Str×Str)) (A:Str->Str->Prop) (_:vs=[.ref x,.ref b,.ref r]) (_:H x=some (.ins (cc 9) dx [])) (_:WebAt cw H b ss ns) (_:Adj ss ns tps) (_:Wb A ss qs) (_:(∀ s∈ss,zu s=true)) (_:(∀ (j:Nat) z u,ss[j]?=some z->(u∈inB ss 0 (ns.getD j 0)↔A z u))) (_:PL H r us qs) (_:qs.length<=30) (_:(∀ q∈qs,(q∈tps\/(q.2,q.1)∈tps)/\q.1∈ss/\q.2∈ss/\q.1≠q.2)) (_:∀ (H0 H':Hp) (a:Fo) (S:FS) (dn wt:List Str) (lo:V),a.x=x->a.ex=[]->FoD (cc 9) cw H0 H' a ss ns qs S dn wt lo A->L2.Same (qeR x H) H0->Q .non H')
theorem WebAt.out {b:Addr} {fs:List (Str×V)} (h:WebAt cw H b ss ns) (hx:H x=some (.ins (cc 9) dx fs)) (hb:b≠x):WebAt cw (qeR x H) b ss ns:=by
 obtain ⟨wx,d,ol,n,h1,h2,h3,h4,h5⟩:=h;refine ⟨wx,d,ol,n,(zo hb).trans h1,(zo ?_).trans h2,(zo ?_).trans h3,(zo ?_).trans h4,h5⟩
 ·exact zv h2 hx (fun z=>by cases z)
 ·exact zv h3 hx (fun z=>by cases z)
 ·exact zv h4 hx (fun z=>by cases z)
theorem ok_fi (F:Fun K "__init__" "Forest.__init__" jS f fd) (T:Txt K mg cc cw) (kW:DefOk P w K mg base CX0 9 "partners_in" ["web","pairs"] (spPn cw)) (uf:MethOk P w K mg base CX0 8 (cc 9) "grow" ["self"] (spGw cc cw)):FnOk P w K mg base CX0 10 f fd ["self","web","pairs"] (spFi cc cw):=by
 refine F.ok K8 fun _ _ _ s H vs Q E hr h=>?_
 ·obtain ⟨x,dx,b,r,ss,ns,us,tps,qs,B,rfl,hx,hW,hA,hWb,hnm,hbs,hP,hql,hqs,q⟩:=h;have hu:=za hr;refine ⟨_,(qc (jK (K:=K) rfl (pv 0) (pv 1) rfl)
 (qc (jK (K:=K) rfl (pv 0) (qt kW (hmR hr) qF (qa (pv 1) (qa (pv 2) qd))) rfl)
 (qc (jK (K:=K) rfl (pv 0) j0 rfl)
 (qc (jK (K:=K) rfl (pv 0) j0 rfl)
 (qc (jK (K:=K) rfl (pv 0) j0 rfl)
 (qc (jK (K:=K) rfl (pv 0) (je qd) rfl)
 (qc (jK (K:=K) rfl (pv 0) (je qd) rfl)
 (qc (jK (K:=K) rfl (pv 0) zS rfl)
 (qf (qM (qZ uf (hmR hr) (pv 0)))))))))))),?_⟩
  have nbx:b≠x:=fun e=>by
   obtain ⟨wx,d,ol,n,hb,_⟩:=id hW;subst e;rw [hx] at hb;injection hb with hb;injection hb with _ _ hb;cases hb
  have nrx:r≠x:=zv hP.1 hx (fun z=>by cases z)
  have nux:∀ u∈us,u≠x:=fun u hu=>by
   obtain ⟨q,_,eu⟩:=hP.2.mem hu;exact zv eu hx (fun z=>by cases z)
  have fa:∀ i,(h:i < 8)->NoAttr K (cc 9) (fAtt.getD i ""):=fun i h=>T.fa _ (by have:i < fAtt.length:=h;rw [YE,yb this];exact YO this);ext;refine .inl ⟨x,cc 9,dx,[],rfl,hx,T.fcl,fa 0 (by decide),by decide,?_⟩;have b1:=(But.refl x H).put (o:=.ins (cc 9) dx (qE "board" (.ref b) []));have hx1:upd H x (.ins (cc 9) dx (qE "board" (.ref b) [])) x=some (.ins (cc 9) dx (qE "board" (.ref b) [])):=qb;generalize upd H x (.ins (cc 9) dx (qE "board" (.ref b) []))=H1 at b1 hx1 ⊢
  have keepW:∀ {J:Hp},But x H J->WebAt cw J b ss ns:=fun k=>by
   obtain ⟨wx,d,ol,n,h1,h2,h3,h4,h5⟩:=hW;exact ⟨wx,d,ol,n,k _ _ nbx h1,k _ _ (zv h2 hx (fun z=>by cases z)) h2,k _ _ (zv h3 hx (fun z=>by cases z)) h3,k _ _ (zv h4 hx (fun z=>by cases z)) h4,h5⟩
  have hP1:PL H1 r us qs:=⟨b1 _ _ nrx hP.1,hP.2.len,fun k t ab ht hab=>b1 _ _ (nux t (ye ht)) (hP.2.at_ k t ab ht hab)⟩;ext;refine ⟨b,r,ss,ns,us,tps,qs,rfl,keepW b1,hA,hP1,⟨hqs,hWb.qn,hql⟩,fun dp H2 s2 hdp0 hdp=>?_⟩;have hx2:=s2 _ _ hx1;have b2:=b1.same s2;have ndp:dp≠x:=fun e=>by rw [e,hx1] at hdp0;cases hdp0
  have hl:∀ {f:Str} {v:V} {fs:List (Str×V)} {n:Nat},fs.length<=n->(qE f v fs).length<=n + 1:=fun h=>yi (js _ _ _) (by omega);ext;refine .inl ⟨x,cc 9,dx,_,rfl,hx2,T.fcl,fa 1 (by decide),Yu (hl (n:=0) (yh _)) (by decide),?_⟩
  have c3:L2.Same (qeR x H2) (upd H2 x (.ins (cc 9) dx (qE "partners" (.ref dp) (qE "board" (.ref b) [])))):=fun c o e=>by
   have hc:c≠x:=fun z=>by rw [z] at e;unfold qeR at e;rw [yE rfl] at e;cases e
   rw [zo hc] at e;rw [qe hc];exact e
  have hx3:upd H2 x (.ins (cc 9) dx (qE "partners" (.ref dp) (qE "board" (.ref b) []))) x=some (.ins (cc 9) dx (qE "partners" (.ref dp) (qE "board" (.ref b) []))):=qb;obtain ⟨H0,hH0⟩:∃ H0,H0=qeR x H2:=⟨_,rfl⟩;rw [<- hH0] at c3;have h0x:H0 x=none:=by rw [hH0];exact yE rfl
  have l3:(qE "partners" (.ref dp) (qE "board" (.ref b) [])).length<=2:=hl (hl (n:=0) (yh _));generalize upd H2 x (.ins (cc 9) dx (qE "partners" (.ref dp) (qE "board" (.ref b) [])))=H3 at c3 hx3 ⊢;obtain ⟨f3,hf3⟩:∃ f3,f3=qE "partners" (.ref dp) (qE "board" (.ref b) []):=⟨_,rfl⟩;rw [<- hf3] at hx3 l3;ext;intro dr hdr;have ndr:dr≠x:=fun e=>by rw [e,hx3] at hdr;cases hdr
  have zdr:H0 dr=none:=c3.free hdr;have hy3:upd H3 dr (.dK []) x=some (.ins (cc 9) dx f3):=by rw [qe ndr.symm];exact hx3
  ext;refine .inl ⟨x,cc 9,dx,_,rfl,hy3,T.fcl,fa 2 (by decide),Yu l3 (by decide),?_⟩;have c4:L2.Same H0 (upd (upd H3 dr (.dK [])) x (.ins (cc 9) dx (qE "rows" (.ref dr) f3))):=qaa (qL c3 hdr) h0x;have hx4:(upd (upd H3 dr (.dK [])) x (.ins (cc 9) dx (qE "rows" (.ref dr) f3))) x=some (.ins (cc 9) dx (qE "rows" (.ref dr) f3)):=qb;have l4:(qE "rows" (.ref dr) f3).length<=3:=hl l3;have edr4:(upd (upd H3 dr (.dK [])) x (.ins (cc 9) dx (qE "rows" (.ref dr) f3))) dr=some (.dK []):=by rw [qe ndr,qb]
  generalize upd (upd H3 dr (.dK [])) x (.ins (cc 9) dx (qE "rows" (.ref dr) f3))=H4 at c4 hx4 edr4 ⊢;obtain ⟨f4,hf4⟩:∃ f,f=qE "rows" (.ref dr) f3:=⟨_,rfl⟩;rw [<- hf4] at hx4 l4;ext;intro da hda;have nda:da≠x:=fun e=>by rw [e,hx4] at hda;cases hda
  have zda:H0 da=none:=c4.free hda;have ndadr:da≠dr:=fun e=>by rw [e,edr4] at hda;cases hda
  have hy4:upd H4 da (.dK []) x=some (.ins (cc 9) dx f4):=by rw [qe nda.symm];exact hx4
  ext;refine .inl ⟨x,cc 9,dx,_,rfl,hy4,T.fcl,fa 3 (by decide),Yu l4 (by decide),?_⟩;have c5:L2.Same H0 (upd (upd H4 da (.dK [])) x (.ins (cc 9) dx (qE "parents" (.ref da) f4))):=qaa (qL c4 hda) h0x;have hx5:(upd (upd H4 da (.dK [])) x (.ins (cc 9) dx (qE "parents" (.ref da) f4))) x=some (.ins (cc 9) dx (qE "parents" (.ref da) f4)):=qb;have l5:(qE "parents" (.ref da) f4).length<=4:=hl l4;have eda5:(upd (upd H4 da (.dK [])) x (.ins (cc 9) dx (qE "parents" (.ref da) f4))) da=some (.dK []):=by rw [qe nda,qb]
  have edr5:(upd (upd H4 da (.dK [])) x (.ins (cc 9) dx (qE "parents" (.ref da) f4))) dr=some (.dK []):=by rw [qe ndr,qe (Ye ndadr)];exact edr4
  generalize upd (upd H4 da (.dK [])) x (.ins (cc 9) dx (qE "parents" (.ref da) f4))=H5 at c5 hx5 edr5 eda5 ⊢;obtain ⟨f5,hf5⟩:∃ f,f=qE "parents" (.ref da) f4:=⟨_,rfl⟩;rw [<- hf5] at hx5 l5;ext;intro ds hds;have nds:ds≠x:=fun e=>by rw [e,hx5] at hds;cases hds
  have zds:H0 ds=none:=c5.free hds;have ndsdr:ds≠dr:=fun e=>by rw [e,edr5] at hds;cases hds
  have ndsda:ds≠da:=fun e=>by rw [e,eda5] at hds;cases hds
  have hy5:upd H5 ds (.dK []) x=some (.ins (cc 9) dx f5):=by rw [qe nds.symm];exact hx5
  ext;refine .inl ⟨x,cc 9,dx,_,rfl,hy5,T.fcl,fa 4 (by decide),Yu l5 (by decide),?_⟩;have c6:L2.Same H0 (upd (upd H5 ds (.dK [])) x (.ins (cc 9) dx (qE "bases" (.ref ds) f5))):=qaa (qL c5 hds) h0x;have hx6:(upd (upd H5 ds (.dK [])) x (.ins (cc 9) dx (qE "bases" (.ref ds) f5))) x=some (.ins (cc 9) dx (qE "bases" (.ref ds) f5)):=qb;have l6:(qE "bases" (.ref ds) f5).length<=5:=hl l5;have eds6:(upd (upd H5 ds (.dK [])) x (.ins (cc 9) dx (qE "bases" (.ref ds) f5))) ds=some (.dK []):=by rw [qe nds,qb]
  have edr6:(upd (upd H5 ds (.dK [])) x (.ins (cc 9) dx (qE "bases" (.ref ds) f5))) dr=some (.dK []):=by rw [qe ndr,qe (Ye ndsdr)];exact edr5
  have eda6:(upd (upd H5 ds (.dK [])) x (.ins (cc 9) dx (qE "bases" (.ref ds) f5))) da=some (.dK []):=by rw [qe nda,qe (Ye ndsda)];exact eda5
  generalize upd (upd H5 ds (.dK [])) x (.ins (cc 9) dx (qE "bases" (.ref ds) f5))=H6 at c6 hx6 edr6 eda6 eds6 ⊢;obtain ⟨f6,hf6⟩:∃ f,f=qE "bases" (.ref ds) f5:=⟨_,rfl⟩;rw [<- hf6] at hx6 l6;ext;refine ⟨by show 0<=sizeLine;decide,fun dg hdg=>?_⟩;have ndg:dg≠x:=fun e=>by rw [e,hx6] at hdg;cases hdg
  have zdg:H0 dg=none:=c6.free hdg;have ndgdr:dg≠dr:=fun e=>by rw [e,edr6] at hdg;cases hdg
  have ndgda:dg≠da:=fun e=>by rw [e,eda6] at hdg;cases hdg
  have ndgds:dg≠ds:=fun e=>by rw [e,eds6] at hdg;cases hdg
  have hy6:upd H6 dg (.lst []) x=some (.ins (cc 9) dx f6):=by rw [qe ndg.symm];exact hx6
  ext;refine .inl ⟨x,cc 9,dx,_,rfl,hy6,T.fcl,fa 5 (by decide),Yu l6 (by decide),?_⟩;have c7:L2.Same H0 (upd (upd H6 dg (.lst [])) x (.ins (cc 9) dx (qE "rings" (.ref dg) f6))):=qaa (qL c6 hdg) h0x;have hx7:(upd (upd H6 dg (.lst [])) x (.ins (cc 9) dx (qE "rings" (.ref dg) f6))) x=some (.ins (cc 9) dx (qE "rings" (.ref dg) f6)):=qb;have l7:(qE "rings" (.ref dg) f6).length<=6:=hl l6;have edg7:(upd (upd H6 dg (.lst [])) x (.ins (cc 9) dx (qE "rings" (.ref dg) f6))) dg=some (.lst []):=by rw [qe ndg,qb]
  have edr7:(upd (upd H6 dg (.lst [])) x (.ins (cc 9) dx (qE "rings" (.ref dg) f6))) dr=some (.dK []):=by rw [qe ndr,qe (Ye ndgdr)];exact edr6
  have eda7:(upd (upd H6 dg (.lst [])) x (.ins (cc 9) dx (qE "rings" (.ref dg) f6))) da=some (.dK []):=by rw [qe nda,qe (Ye ndgda)];exact eda6
  have eds7:(upd (upd H6 dg (.lst [])) x (.ins (cc 9) dx (qE "rings" (.ref dg) f6))) ds=some (.dK []):=by rw [qe nds,qe (Ye ndgds)];exact eds6
  generalize upd (upd H6 dg (.lst [])) x (.ins (cc 9) dx (qE "rings" (.ref dg) f6))=H7 at c7 hx7 edr7 eda7 eds7 edg7 ⊢;obtain ⟨f7,hf7⟩:∃ f,f=qE "rings" (.ref dg) f6:=⟨_,rfl⟩;rw [<- hf7] at hx7 l7;ext;refine ⟨by show 0<=sizeLine;decide,fun dw hdw=>?_⟩;have ndw:dw≠x:=fun e=>by rw [e,hx7] at hdw;cases hdw
  have zdw:H0 dw=none:=c7.free hdw;have ndwdr:dw≠dr:=fun e=>by rw [e,edr7] at hdw;cases hdw
  have ndwda:dw≠da:=fun e=>by rw [e,eda7] at hdw;cases hdw
  have ndwds:dw≠ds:=fun e=>by rw [e,eds7] at hdw;cases hdw
  have ndwdg:dw≠dg:=fun e=>by rw [e,edg7] at hdw;cases hdw
  have hy7:upd H7 dw (.lst []) x=some (.ins (cc 9) dx f7):=by rw [qe ndw.symm];exact hx7
  ext;refine .inl ⟨x,cc 9,dx,_,rfl,hy7,T.fcl,fa 6 (by decide),Yu l7 (by decide),?_⟩;have c8:L2.Same H0 (upd (upd H7 dw (.lst [])) x (.ins (cc 9) dx (qE "waiting" (.ref dw) f7))):=qaa (qL c7 hdw) h0x;have hx8:(upd (upd H7 dw (.lst [])) x (.ins (cc 9) dx (qE "waiting" (.ref dw) f7))) x=some (.ins (cc 9) dx (qE "waiting" (.ref dw) f7)):=qb;have l8:(qE "waiting" (.ref dw) f7).length<=7:=hl l7;have edw8:(upd (upd H7 dw (.lst [])) x (.ins (cc 9) dx (qE "waiting" (.ref dw) f7))) dw=some (.lst []):=by rw [qe ndw,qb]
  have edr8:(upd (upd H7 dw (.lst [])) x (.ins (cc 9) dx (qE "waiting" (.ref dw) f7))) dr=some (.dK []):=by rw [qe ndr,qe (Ye ndwdr)];exact edr7
  have eda8:(upd (upd H7 dw (.lst [])) x (.ins (cc 9) dx (qE "waiting" (.ref dw) f7))) da=some (.dK []):=by rw [qe nda,qe (Ye ndwda)];exact eda7
  have eds8:(upd (upd H7 dw (.lst [])) x (.ins (cc 9) dx (qE "waiting" (.ref dw) f7))) ds=some (.dK []):=by rw [qe nds,qe (Ye ndwds)];exact eds7
  have edg8:(upd (upd H7 dw (.lst [])) x (.ins (cc 9) dx (qE "waiting" (.ref dw) f7))) dg=some (.lst []):=by rw [qe ndg,qe (Ye ndwdg)];exact edg7
  generalize upd (upd H7 dw (.lst [])) x (.ins (cc 9) dx (qE "waiting" (.ref dw) f7))=H8 at c8 hx8 edr8 eda8 eds8 edg8 edw8 ⊢;obtain ⟨f8,hf8⟩:∃ f,f=qE "waiting" (.ref dw) f7:=⟨_,rfl⟩;rw [<- hf8] at hx8 l8;ext;refine .inl ⟨x,cc 9,dx,_,rfl,hx8,T.fcl,fa 7 (by decide),Yu l8 (by decide),?_⟩;have c9:L2.Same H0 (upd H8 x (.ins (cc 9) dx (qE "longer" .non f8))):=qaa c8 h0x;have hx9:(upd H8 x (.ins (cc 9) dx (qE "longer" .non f8))) x=some (.ins (cc 9) dx (qE "longer" .non f8)):=qb;have l9:(qE "longer" .non f8).length<=8:=hl l8;have edr9:(upd H8 x (.ins (cc 9) dx (qE "longer" .non f8))) dr=some (.dK []):=by rw [qe ndr];exact edr8
  have eda9:(upd H8 x (.ins (cc 9) dx (qE "longer" .non f8))) da=some (.dK []):=by rw [qe nda];exact eda8
  have eds9:(upd H8 x (.ins (cc 9) dx (qE "longer" .non f8))) ds=some (.dK []):=by rw [qe nds];exact eds8
  have edg9:(upd H8 x (.ins (cc 9) dx (qE "longer" .non f8))) dg=some (.lst []):=by rw [qe ndg];exact edg8
  have edw9:(upd H8 x (.ins (cc 9) dx (qE "longer" .non f8))) dw=some (.lst []):=by rw [qe ndw];exact edw8
  generalize upd H8 x (.ins (cc 9) dx (qE "longer" .non f8))=H9 at c9 hx9 edr9 eda9 eds9 edg9 edw9 ⊢
  have hF:FoA (cc 9) cw H0 H9 ⟨x,b,dp,dr,da,ds,dg,dw,[]⟩ ss ns qs S0 [] [] [] .non:=by
   refine ⟨c9,?_,?_,fun c hc=>?_,?_,(fun c hc=>by cases hc),⟨dx,_,hx9,X9 l9,fun _=>l9,fun f v hf=>?_,fun f hf=>?_⟩,⟨[],edr9,yh _,fun _=>rfl⟩,⟨[],eda9,⟨[],yh _,.nil,(fun u hu=>by cases hu)⟩,fun _=>rfl⟩,⟨[],eds9,yh _,(fun s hs=>by cases hs)⟩,⟨[],edg9,yh _⟩,edw9,.nil,fun v=>⟨(fun k=>by cases k),fun k=>absurd rfl k⟩,(fun v hv=>by cases hv)⟩
   ·rw [hH0];exact (keepW b2).out hx2 nbx
   ·rw [hH0];exact (zo ndp).trans hdp
   ·simp only [Fo.six,yx,y0,YU] at hc;rcases hc with rfl | rfl | rfl | rfl | rfl | rfl<;>assumption
   ·simp [ndadr.symm,ndsdr.symm,ndgdr.symm,ndwdr.symm,ndsda.symm,ndgda.symm,ndwda.symm,ndgds.symm,ndwds.symm,ndwdg.symm]
   ·simp only [Fo.tab,yx,Xb,y0,YU] at hf;rw [hf8,hf7,hf6,hf5,hf4,hf3];rcases hf with ⟨rfl,rfl⟩ | ⟨rfl,rfl⟩ | ⟨rfl,rfl⟩ | ⟨rfl,rfl⟩ | ⟨rfl,rfl⟩ | ⟨rfl,rfl⟩ | ⟨rfl,rfl⟩ | ⟨rfl,rfl⟩<;>rfl
   ·rw [hf8,hf7,hf6,hf5,hf4,hf3];have no:∀ i,i < 8->f≠fAtt.getD i "":=fun i hi e=>hf (by rw [e,YE,yb (show i < fAtt.length from hi)];exact YO _);exact lkn (no 7 (by decide)) (lkn (no 6 (by decide)) (lkn (no 5 (by decide)) (lkn (no 4 (by decide)) (lkn (no 3 (by decide)) (lkn (no 2 (by decide)) (lkn (no 1 (by decide)) (lkn (no 0 (by decide)) rfl)))))))
  ext;obtain ⟨dx',fs,hx1',_,_,_,hx2'⟩:=id hF.obj;refine ⟨x,dx',fs,rfl,hx1',hx2' _ (by decide +kernel),?_⟩;ext;refine ⟨H0,_,ss,ns,qs,B,rfl,hF,hWb,hnm,hbs,fun HA S dn wt lo hD bxA=>?_⟩;refine q H0 HA _ S dn wt lo rfl rfl hD fun c o e=>?_;have hc:c≠x:=fun z=>by rw [z] at e;unfold qeR at e;rw [yE rfl] at e;cases e
  rw [zo hc] at e;rw [hH0,zo hc];exact b2 _ _ hc e
inductive spFr (cc:Nat->Addr) (cw:Addr) (vs:List V) (H:Hp) (Q:VK) (E:XK):Prop|mk (H0:Hp) (a:Fo) (ss:List Str) (ns:List Nat) (qs:List (Str×Str)) (S:FS) (dn wt:List Str) (lo:V) (A:Str->Str->Prop) (_:vs=[.ref a.x]) (_:FoD (cc 9) cw H0 H a ss ns qs S dn wt lo A) (_:(lo=.non->Q .non H)) (_:∀ (t:Addr) (r:List Str),lo=.ref t->H t=some (.lst (r.map V.str))->Aug A (pt qs) r->∀ l,H l=none->Q (.ref l) (upd H l (.lst (r.map V.str))))
inductive spFd2 (cc:Nat->Addr) (cw:Addr) (vs:List V) (H:Hp) (Q:VK) (E:XK):Prop|mk (H0:Hp) (a:Fo) (ss:List Str) (ns:List Nat) (qs:List (Str×Str)) (S:FS) (dn wt:List Str) (lo:V) (A:Str->Str->Prop) (_:vs=[.ref a.x]) (_:FoD (cc 9) cw H0 H a ss ns qs S dn wt lo A) (_:ss.length<=14) (_:(lo≠.non->Q .non H)) (_:(lo=.non->∀ (l:Addr) (H':Hp),L2.Same H H'->H l=none->H' l=some (.lst ((ss.filter fun s=>(S.rows s).isSome).map V.str))->Q (.ref l) H'))
theorem ok_fr (F:Fun K "row" "Forest.row" j7 f fd) (T:Txt K mg cc cw):FnOk P w K mg base CX0 1 f fd ["self"] (spFr cc cw):=by
 refine F.ok ue fun _ _ _ _ H vs Q E hr h=>?_
 ·obtain ⟨H0,a,ss,ns,qs,S,dn,wt,lo,B,rfl,hD,q1,q2⟩:=h;refine ⟨_,(qf (qm (qcK (qp qf6 (qB (K:=K) rfl (pv 0) rfl) zS (qD _)) zS (qY (qa0 (K:=K) rfl rfl) rfl T.b_list xN (qa (qB (K:=K) rfl (pv 0) rfl) qd))))),?_⟩;ext;refine .inl (hD.fo.obj.rd T 7 rfl ?_);ext;rcases hD.en with ⟨rfl,_⟩ | ⟨t,r,rfl,et,nt,hA,_⟩
  ·refine ⟨_,rfl,qai ?_⟩;ext;exact q1 rfl
  ·refine ⟨_,rfl,qU (fun h=>by cases h) fun _=>?_⟩;ext;refine .inl (hD.fo.obj.rd T 7 rfl ?_);ext;exact .inl ⟨t,_,rfl,.inl (.of et),q2 t r rfl et hA⟩
theorem ok_fd2 (F:Fun K "reached" "Forest.reached" jc f fd) (T:Txt K mg cc cw) (k8:MethOk P w K mg base CX0 1 cw "places" ["self"] (spPls cw)):FnOk P w K mg base CX0 2 f fd ["self"] (spFd2 cc cw):=by
 refine F.ok KU fun _ _ _ s H vs Q E hr h=>?_
 ·obtain ⟨H0,a,ss,ns,qs,S,dn,wt,lo,B,rfl,hD,h14,q1,q2⟩:=h;have hu:=za hr;refine ⟨_,(qc (qP (qp qco (qB (K:=K) rfl (pv 0) rfl) zS (qD _)) (qf (qm zS)) qv)
 (qf (qm (jw (sc:=qh jc) (XN:=["self"]) ["place","self"] 1 [0] rfl rfl rfl (by decide +kernel) rfl (by decide +kernel)
  (jg (K:=K) rfl (qZ k8 (hmR hr) (qB (K:=K) rfl (pv 0) rfl))) (fun _ _ _ _=>(qr (i:=0) (show (["place","self"]:List Str).Nodup by decide +kernel) rfl (yJ rfl))) ji
  (fun _ _ _ _=>(jO (qp (zW (K:=K) rfl hu) (pv 0) (qB (K:=K) rfl (pv 1) rfl) (by with_unfolding_all rfl))))
  (fun _ _ _ _=>(pv 0)))))),?_⟩
  have h:=hD.fo;ext;refine .inl (h.obj.rd T 7 rfl ?_);ext;rcases hD.en with ⟨rfl,_⟩ | ⟨t,r,rfl,_⟩
  ·refine ⟨rfl,_,rfl,qU (fun h=>by simp at h) fun _=>?_⟩;have hWt:=h.web.same h.sm;obtain ⟨wx,dd,ol,nn,hb,_⟩:=id hWt;ext;refine .inl (h.obj.rd T 0 rfl ?_);refine ⟨a.b,wx,_,rfl,hb,jY (by decide +kernel),?_⟩;ext;refine ⟨a.b,ss,ns,rfl,hWt,fun pl hpl=>?_⟩;have s1:=qL (Sr H) (o:=.lst (ss.map V.str)) hpl;have e1:upd H pl (.lst (ss.map V.str)) pl=some (.lst (ss.map V.str)):=qb;generalize upd H pl (.lst (ss.map V.str))=H1 at s1 e1;have h1:=h.same s1;obtain ⟨kr,r1,r2,r3⟩:=h1.row;refine .inl ⟨⟨_,.of e1⟩,jo (xs:=ss.map V.str) (fun i ys J=>J=H1/\ys=((ss.take i).filter fun s=>(S.rows s).isSome).map V.str) ⟨rfl,rfl⟩ (fun i ys J _ hp=>by rw [hp.1];exact .of e1) (fun i y ys J hy hp=>?_) fun ys J hp=>?_⟩
   ·obtain ⟨rfl,rfl⟩:=hp;rw [yd] at hy;obtain ⟨z,hz,rfl⟩:=yn.mp hy;have hil:=(yc.mp hz).1;have hfl:=yW (fun s=>(S.rows s).isSome) (ss.take i);rw [yR] at hfl
    have estep:(ss.take (i + 1)).filter (fun s=>(S.rows s).isSome)=(ss.take i).filter (fun s=>(S.rows s).isSome)++(if (S.rows z).isSome=true then [z] else []):=by
     rw [yQ,hz,Yp];show _++[z].filter _=_;rw [yU,YK]
    ext;refine .inl (h1.obj.rd T 2 rfl ?_);refine .inr (.inl ⟨a.dr,_,rfl,DGet.k (k:=Sum.inr z) r1,?_⟩);have hrz:=r3 z
    have esm:(jJ kr (.inr z:Key)).isSome=(S.rows z).isSome:=by
     cases e:S.rows z with
     | none=>rw [e] at hrz;rw [show jJ kr (.inr z:Key)=none from hrz];rfl
     | some r=>rw [e] at hrz;obtain ⟨t,k,_⟩:=hrz;rw [k];rfl
    rw [yy (by decide),esm,estep];refine ⟨_,rfl,?_⟩
    cases (S.rows z).isSome with
    | true =>
     refine qai ?_;rw [yE rfl];ext;exact ⟨by rw [ya];exact qi (by omega),rfl,by rw [yG];rfl⟩
    | false =>
     refine yq ?_;rw [yy (by decide),Yr];exact ⟨rfl,rfl⟩
   ·obtain ⟨rfl,rfl⟩:=hp;rw [show (ss.map V.str).length=ss.length from ya _,yV];have hfl:=yW (fun s=>(S.rows s).isSome) ss;refine ⟨by rw [ya];exact yZ (qi (by omega)),fun l hl=>?_⟩;exact q2 rfl l _ (qL s1 hl) (s1.free hl) qb
  ·refine ⟨rfl,_,rfl,qai ?_⟩;ext;exact q1 (fun e=>by cases e)
theorem KL:FnScope ["web","pairs","partners"] ["web","pairs"] (qh jH):=fS
theorem Kd:FnScope ["web","thing","seen","place"] ["web","thing"] (qh q8):=fS
theorem qcA (a b:Str):eqV (.str a) (.str b)=decide (a=b):=by
 unfold eqV;by_cases h:a=b<;>simp [h]
theorem vEqS {i j:Str} {Q:VK} (q:Q (.bl (decide (i=j))) H):qfy K (.str i) (.str j) H Q:=.inl (.inl (.inl ⟨rfl,rfl,by rw [yy (by decide),qcA];exact q⟩))
noncomputable def qa6 (dps qs:List (Str×Str)):List (Str×Str):=dps.filter fun q=>decide (pt qs q.1=some q.2)
inductive spTp (cw:Addr) (vs:List V) (H:Hp) (Q:VK) (E:XK):Prop|mk (x l:Addr) (ss:List Str) (ns:List Nat) (us:List Addr) (tps qs:List (Str×Str)) (_:vs=[.ref x,.ref l]) (_:WebAt cw H x ss ns) (_:Adj ss ns tps) (_:PL H l us qs) (_:PGo ss tps qs) (_:∀ (l:Addr) (ls:List Addr) (H':Hp),L2.Same H H'->H l=none->H' l=some (.lst (ls.map V.ref))->ls.length<=196->All2 (PrAt H H' l) ls (qa6 (qK ss ns ss.length) qs)->Q (.ref l) H')
noncomputable def stp (rs:List Str):List (Str×Str):=rs.zip rs.tail
noncomputable def prB (qs:List (Str×Str)) (ab:Str×Str):Bool:=decide (pt qs ab.1=some ab.2)
theorem stp_at:(stp rs)[j]?=some ab↔rs[j]?=some ab.1/\rs[j + 1]?=some ab.2:=by
 unfold stp;rw [List.getElem?_zip_eq_some,xK]
theorem zZ (rs:List Str):(stp rs).length=rs.length - 1:=by unfold stp;rw [List.length_zip,xG];omega
structure RowG (ss:List Str) (tps qs:List (Str×Str)) (rs:List Str):Prop where
 nd:rs.Nodup
 two:2<=rs.length
 few:rs.length<=1000
 inn:∀ r∈rs,r∈ss
 tie:∀ (j:Nat) ab,(stp rs)[j]?=some ab->(ab∈tps\/(ab.2,ab.1)∈tps)/\prB qs ab=decide (j % 2=1)
 hd:∀ s,rs[0]?=some s->pt qs s=none
 tl:∀ s,rs[rs.length - 1]?=some s->pt qs s=none
structure Rw (cw:Addr) (H:Hp) (x l a:Addr) (ss:List Str) (ns:List Nat) (us:List Addr) (tps qs:List (Str×Str)) (rs:List Str):Prop where
 web:WebAt cw H x ss ns
 adj:Adj ss ns tps
 prs:PL H l us qs
 pgo:PGo ss tps qs
 row:H a=some (.lst (rs.map V.str))
 rok:RowG ss tps qs rs
theorem Rw.same {a:Addr} (h:Rw cw H x l a ss ns us tps qs rs) (s:L2.Same H H'):Rw cw H' x l a ss ns us tps qs rs:=
 ⟨h.web.same s,h.adj,h.prs.same s,h.pgo,s _ _ h.row,h.rok⟩
inductive spUl (cw:Addr) (vs:List V) (H:Hp) (Q:VK) (E:XK):Prop|mk (x a:Addr) (ss:List Str) (ns:List Nat) (rs:List Str) (_:vs=[.ref x,.ref a]) (_:WebAt cw H x ss ns) (_:H a=some (.lst (rs.map V.str))) (_:rs.Nodup) (_:rs.length<=1000) (_:(∀ r∈rs,r∈ss)) (_:∀ H',L2.Same H H'->Q (.bl true) H')
inductive spGt (cw:Addr) (vs:List V) (H:Hp) (Q:VK) (E:XK):Prop|mk (x l d a:Addr) (ss:List Str) (ns:List Nat) (us:List Addr) (tps qs:List (Str×Str)) (rs:List Str) (_:vs=[.ref x,.ref d,.ref a]) (_:Rw cw H x l a ss ns us tps qs rs) (_:H d=some (.dK (prK qs))) (_:∀ H',L2.Same H H'->Q (.bl true) H')
inductive spIr (cw:Addr) (vs:List V) (H:Hp) (Q:VK) (E:XK):Prop|mk (x l a:Addr) (ss:List Str) (ns:List Nat) (us:List Addr) (tps qs:List (Str×Str)) (rs:List Str) (_:vs=[.ref x,.ref l,.ref a]) (_:Rw cw H x l a ss ns us tps qs rs) (_:∀ H',L2.Same H H'->Q (.bl true) H')
theorem qeS {t:Str} {Q:VK} (q:Q (.bl (decide (pt qs s=some t))) H):qfy K (((pt qs s).map V.str).getD .non) (.str t) H Q:=by
 cases e:pt qs s with
 | none=>rw [e] at q;exact .inl (.inl (.inl ⟨rfl,rfl,q⟩))
 | some u =>
  refine vEqS ?_;rw [e] at q
  rwa [show decide (u=t)=decide (some u=some t) from Ys.mpr ⟨congrArg some,ym⟩]
theorem ok_tp (F:Fun K "told_pairs" "told_pairs" jH f fd) (T:Txt K mg cc cw) (kW:DefOk P w K mg base CX0 9 "partners_in" ["web","pairs"] (spPn cw)) (Kp:MethOk P w K mg base CX0 7 cw "ties" ["self"] (spTs cw)):FnOk P w K mg base CX0 10 f fd ["web","pairs"] (spTp cw):=by
 refine F.ok KL fun _ _ _ _ H vs Q E hr h=>?_
 ·obtain ⟨x,pl,ss,ns,ps,tps,qs,rfl,hW,hA,hP,hG,q⟩:=h;have hu:=za hr;obtain ⟨wx,dd,ol,nn,hb,_⟩:=id hW;refine ⟨_,(qc (qo (i:=2) KL.nd rfl (X2 rfl) (qt kW (hmR hr) qF (qa (pv 0) (qa (pv 1) qd))))
 (qf (qm (jw (sc:=qh jH) (XN:=["web","pairs","partners"]) ["tie","partners"] 1 [2] rfl rfl rfl (by decide +kernel) rfl (by decide +kernel)
  (jg (K:=K) rfl (qZ Kp (hmR hr) (pv 0))) (fun _ _ _ _=>(qr (i:=0) (show (["tie","partners"]:List Str).Nodup by decide +kernel) rfl (yJ rfl))) ji
  (fun _ _ _ _=>(jO (qp (zX (K:=K) rfl hu) (qah (qfk hu) (pv 1) (qx (qy (K:=K) rfl hu) (pv 0) qg (fun _ _=>rfl)) ⟨rfl,rfl,rfl,rfl⟩) (qx (qy (K:=K) rfl hu) (pv 0) qg (fun _ _=>rfl)) (qD _))))
  (fun _ _ _ _=>(pv 0)))))),?_⟩
  ext;refine ⟨x,pl,ss,ns,ps,tps,qs,rfl,hW,hA,hP,hG,fun d H1 s1 hd0 hd=>?_⟩;ext;refine ⟨x,wx,_,rfl,s1 _ _ hb,jY (by decide +kernel),?_⟩;ext;refine ⟨x,ss,ns,rfl,hW.same s1,fun l ts H2 s2 hl0 hl hl196 hAl=>?_⟩;have hd2:=s2 _ _ hd;have s02:=s1.trans s2;refine .inl ⟨⟨_,.of hl⟩,jo (xs:=ts.map V.ref) (fun i ys G=>G=H2/\∃ us:List Addr,ys=us.map V.ref/\us.length<=i/\All2 (fun t ab=>H1 t=none/\H2 t=some (.tup [.str ab.1,.str ab.2])) us (qa6 ((qK ss ns ss.length).take i) qs)) ⟨rfl,[],rfl,yh _,.nil⟩ (fun i ys G _ hp'=>by rw [hp'.1];exact .of hl) (fun i y ys G hy hp'=>?_) fun ys G hp'=>?_⟩
  ·obtain ⟨rfl,us,rfl,hul,hU⟩:=hp';rw [yd] at hy;obtain ⟨t,ht,rfl⟩:=yn.mp hy;have hi:i < ts.length:=(yc.mp ht).1;obtain ⟨ab,hab⟩:∃ ab,(qK ss ns ss.length)[i]?=some ab:=⟨_,yb (by rw [<- hAl.len];exact hi)⟩;obtain ⟨z1,z2,z3⟩:=hAl.at_ i t ab ht hab
   have hstep:qa6 ((qK ss ns ss.length).take (i + 1)) qs=qa6 ((qK ss ns ss.length).take i) qs++(if pt qs ab.1=some ab.2 then [ab] else []):=by
    unfold qa6;rw [yQ,hab,Yp];show _++[ab].filter _=_;rw [yU];simp only [xU,YK]
   ext;refine qb8 ?_;ext;refine ⟨d,rfl,.inl ⟨_,.inl hd2⟩,?_⟩;ext;refine .inl (qaY z3 (v:=.str ab.1) (qA (j:=0) rfl) ?_);refine ⟨_,DGet.k (k:=Sum.inr ab.1) hd2,?_⟩;rw [jD];ext;refine .inl (qaY z3 (v:=.str ab.2) (qA (j:=1) rfl) ?_);refine qeS ?_;ext;rw [hstep];refine qU (fun ho=>?_) (fun ho=>?_)
   ·rw [yE (yk ho)];ext;exact ⟨by rw [ya];exact qi (by omega),rfl,us++[t],by rw [yG];rfl,by rw [yt];simp;omega,hU.snoc ⟨z1,z3⟩⟩
   ·rw [yy (fun e=>ho (yI e)),Yr];exact ⟨rfl,us,rfl,by omega,hU⟩
  ·obtain ⟨rfl,us,rfl,hul,hU⟩:=hp';have e:(ts.map V.ref).length=(qK ss ns ss.length).length:=by rw [ya,hAl.len]
   rw [e,yV] at hU;rw [ya] at hul;refine ⟨by rw [ya];exact yZ (qi (by omega)),fun g hg=>?_⟩;have s3:=qL s02 (o:=.lst (us.map V.ref)) hg;exact q g us _ s3 (s02.free hg) qb (by omega) (hU.mono fun t ab z=>⟨s1.free z.1,(fun e=>by rw [e,hg] at z;cases z.2),by rw [qe (fun e=>by rw [e,hg] at z;cases z.2)];exact z.2⟩)
theorem ok_ul (F:Fun K "are_unlike_places" "are_unlike_places" q8 f fd) (T:Txt K mg cc cw) (Kn:MethOk P w K mg base CX0 3 cw "has_place" ["self","thing"] (spHas cw)):FnOk P w K mg base CX0 4 f fd ["web","thing"] (spUl cw):=by
 refine F.ok Kd fun _ _ _ _ H vs Q E hr h=>?_
 ·obtain ⟨x,a,ss,ns,rs,rfl,hW,ha,hnd,hl,hin,q⟩:=h;have hu:=za hr;refine ⟨_,(qc (qP (jd (qX (qk (qam (K:=K) rfl) rfl T.b_isinstance YF (qa (pv 1) (qa (jB (v:=.ty "list") rfl T.b_list xN rfl) qd))))) (qf (qm jW)) qv)
 (qc (qo (i:=2) Kd.nd rfl (yJ rfl) j0)
 (qc (q9 yP rfl (jg (K:=K) rfl (pv 1)) (qr (i:=3) Kd.nd rfl (yJ rfl))
 (qc (qP (PW.pt (qaA (jd (qX (qG Kn (hmR hr) (pv 0) (qa (pv 3) qd)))) (qab (qp (zW (K:=K) rfl hu) (pv 3) (pv 2) (by with_unfolding_all rfl))))) (qf (qm jW)) qv)
 (qf (jG jW (jL (pv 2) (pv 3) (jM hu))))))
 (qf (qm jW))))),?_⟩
  ext;refine qbw (.inl (.lst ha)) rfl (zl K "list" (by simp) "list" (by simp)) ?_;ext;refine yq ?_;ext;intro d hd;have s1:=qL (Sr H) (o:=.dK []) hd;have ed:upd H d (.dK []) d=some (.dK (qbA [])):=qb;generalize upd H d (.dK [])=H1 at s1 ed;obtain ⟨wx,dd,ol,nn,hb,_⟩:=id hW;ext;refine .inl ⟨⟨_,.of (s1 _ _ ha)⟩,jj (xs:=rs.map V.str) (fun i σ J=>L2.Same H J/\∃ y3,σ=[some (.ref x),some (.ref a),some (.ref d),y3]/\J d=some (.dK (qbA (rs.take i)))) ⟨s1,_,rfl,ed⟩ (fun i σ J _ hp=>.of (hp.1 _ _ ha)) (fun i y σ J hy hp=>?_) fun σ J hp=>?_⟩
  ·obtain ⟨sJ,y3,rfl,edJ⟩:=hp;rw [yd] at hy;obtain ⟨z,hz,rfl⟩:=yn.mp hy;have hil:i < rs.length:=(yc.mp hz).1;have htk:rs.take (i + 1)=rs.take i++[z]:=by rw [yQ,hz];rfl
   have hm:z∉rs.take i:=fun y=>by
    have h3:(rs.take (i + 1)).Nodup:=hnd.sublist (xR _ _);rw [htk] at h3;exact (yX.mp h3).2.2 _ y z (by simp) rfl
   ext;refine ⟨x,wx,_,rfl,sJ _ _ hb,jY (by decide +kernel),?_⟩;ext;refine ⟨x,ss,ns,z,rfl,hW.same sJ,hin z (ye hz),fun J2 s2=>?_⟩;ext;refine yq ?_;ext;refine .inr (.inl ⟨d,_,rfl,DGet.k (k:=Sum.inr z) (s2 _ _ edJ),?_⟩);rw [yy (by decide),zB,yl hm];ext;refine yq ?_;ext;refine .inr ⟨d,_,rfl,DPut.k (k:=Sum.inr z) (s2 _ _ edJ) (qi (by unfold qbA;rw [ya,yR];omega)),?_⟩;refine ⟨qaa (sJ.trans s2) hd,_,rfl,?_⟩;rw [qb,qbB hm,htk]
  ·obtain ⟨sJ,y3,rfl,edJ⟩:=hp;ext;exact q J sJ
theorem ua:FnScope ["web","pairs","thing","partners"] ["web","pairs","thing"] (qh qaI):=fS
theorem Kl:FnScope ["web","partners","names","steps","paired"] ["web","partners","names"] (qh qN):=fS
theorem Kv:FnScope ["web","pairs","thing","partners","first","last"] ["web","pairs","thing"] (qh zM):=fS
theorem qaJ (rs:List V):qbG rs (some 1) none=rs.tail:=by
 have:=qb6 rs 1
 rwa [List.drop_one] at this
theorem qfp:∀ {bs:List Bool},(∀ b∈bs,b=true)->bs.all id=true:=fun h=>YV.mpr h
theorem qdP {xs ys:List Str} (Z:Zl H H' l ts (xs.map V.str) (ys.map V.str)) (hl:qs.length=min xs.length ys.length) (h:∀ (j:Nat) q,qs[j]?=some q->xs[j]?=some q.1/\ys[j]?=some q.2):All2 (fun t ab=>H' t=some (.tup [.str ab.1,.str ab.2])) ts qs:=by
 refine ⟨by rw [Z.len,ya,ya,hl],fun j t ab ht hab=>?_⟩;obtain ⟨e1,e2⟩:=h j ab hab;obtain ⟨_,u,v,hu',hv',e⟩:=Z.tp j t ht;rw [yd,e1] at hu';rw [yd,e2] at hv';cases hu';cases hv';exact e
theorem atI_back {xs:List α} {v:α} (h0:1<=j) (h1:j<=xs.length) (h:xs[xs.length - j]?=some v):atI xs (-(j:Int))=some v:=by
 have e:ixN xs.length (-(j:Int))=some (xs.length - j):=by
  unfold ixN;rw [yy (by omega),yE (by omega)]
  congr 1
  omega
 unfold atI;rw [e];exact h
theorem ok_gt (F:Fun K "goes_by_turns" "goes_by_turns" qN f fd) (T:Txt K mg cc cw) (Kz:MethOk P w K mg base CX0 7 cw "has_tie" ["self","thing"] (spHt cw)):FnOk P w K mg base CX0 8 f fd ["web","partners","names"] (spGt cw):=by
 refine F.ok Kl fun _ _ _ _ H vs Q E hr h=>?_
 ·obtain ⟨x,l,d,a,ss,ns,us,tps,qs,rs,rfl,R,hd,q⟩:=h;have hu:=za hr;obtain ⟨wx,dd,ol,nn,hb,_⟩:=id R.web;have ha:=R.row;have RG:=R.rok;have hl:=RG.few;refine ⟨_,(qc (qo (i:=3) Kl.nd rfl (yJ rfl) (qcx (K:=K) rfl rfl rfl rfl T.b_list T.b_zip (qa (pv 2) (qa (jZ (qel (K:=K) rfl) (pv 2) (jI qg) zy) qd))))
 (qc (qP (jd (qX (qk (qeM (K:=K) rfl rfl) rfl T.b_all boot_all (qa (jw (sc:=qh qN) (XN:=["web","partners","names","steps","paired"]) ["step","web"] 1 [0] rfl rfl rfl (by decide +kernel) rfl (by decide +kernel)
  (jg (K:=K) rfl (pv 3)) (fun _ _ _ _=>(qr (i:=0) (show (["step","web"]:List Str).Nodup by decide +kernel) rfl (yJ rfl))) ji
  (fun _ _ _ _=>jN)
  (fun _ _ _ _=>(qG Kz (hmR hr) (pv 1) (qa (pv 0) qd)))) qd)))) (qf (qm jW)) qv)
 (qc (qbr (sc:=qh qN) (XN:=["web","partners","names","steps","paired"]) ["step","partners"] 1 [1] rfl rfl rfl (by decide +kernel) rfl (by decide +kernel) (i:=4) Kl.nd rfl rfl
  (jg (K:=K) rfl (pv 3)) (fun _ _ _ _=>(qr (i:=0) (show (["step","partners"]:List Str).Nodup by decide +kernel) rfl (yJ rfl))) ji
  (fun _ _ _ _=>jN)
  (fun _ _ _ _=>(jC (zX (K:=K) rfl hu) (qah (qfk hu) (pv 1) (qx (qy (K:=K) rfl hu) (pv 0) qg (fun _ _=>rfl)) ⟨rfl,rfl,rfl,rfl⟩) (qx (qy (K:=K) rfl hu) (pv 0) qg (fun _ _=>rfl)) (qD _))))
 (qf (qm (qk (qeM (K:=K) rfl rfl) rfl T.b_all boot_all (qa (jw (sc:=qh qN) (XN:=["web","partners","names","steps","paired"]) ["one","other"] 2 [] rfl rfl rfl (by decide +kernel) rfl (by decide +kernel)
  (pi_zip (K:=K) rfl rfl T.b_zip (qa (pv 4) (qa (jZ (qel (K:=K) rfl) (pv 4) (jI qg) zy) qd))) (fun _ _ _ _=>(qdg (n:=2) rfl (zD (qr (i:=0) (show (["one","other"]:List Str).Nodup by decide +kernel) rfl (yJ rfl)) (zD (qr (i:=1) (show (["one","other"]:List Str).Nodup by decide +kernel) rfl (yJ rfl)) qcl)))) gk_two
  (fun _ _ _ _=>jN)
  (fun _ _ _ _=>(jC (qaB (K:=K) rfl hu) (pv 0) (pv 1) (qD _)))) qd))))))),?_⟩
  ext;refine vLZ ?_;ext;refine .inl ⟨a,_,rfl,SqL.of ha,fun c hc=>?_⟩;rw [qaJ,<- ko];have s1:=qL (Sr H) (o:=.lst (rs.tail.map V.str)) hc;have hc1:upd H c (.lst (rs.tail.map V.str)) c=some (.lst (rs.tail.map V.str)):=qb;generalize upd H c (.lst (rs.tail.map V.str))=H1 at s1 hc1;ext;refine ⟨a,c,_,_,rfl,SqL.of (s1 _ _ ha),SqL.of hc1,by rw [ya];exact hl,fun l ts H2 Z=>?_⟩;have s02:=s1.trans Z.sm;have hll:(stp rs).length<=1000:=by rw [zZ];omega
  have hAl:=qdP (qs:=stp rs) Z (by rw [zZ,xG];omega) fun j q e=>by
   obtain ⟨z1,z2⟩:=stp_at.mp e;exact ⟨z1,by rw [xK];exact z2⟩
  have tl:=hAl.len;have hls:=Z.ls
  have stn:∀ {i:Nat} {y:V},(ts.map V.ref)[i]?=some y->∃ t ab,y=.ref t/\(stp rs)[i]?=some ab/\H2 t=some (.tup [.str ab.1,.str ab.2]):=fun {i y} hy=>by
   rw [yd] at hy;obtain ⟨t,ht,rfl⟩:=yn.mp hy;obtain ⟨ab,hab⟩:∃ ab,(stp rs)[i]?=some ab:=⟨_,yb (by rw [<- tl];exact (yc.mp ht).1)⟩;exact ⟨t,ab,rfl,hab,hAl.at_ i t ab ht hab⟩
  ext;refine .inl ⟨⟨_,.of hls⟩,jo (xs:=ts.map V.ref) (fun i ys G=>L2.Same H2 G/\ys=(((stp rs).take i).map fun _=>true).map V.bl) ⟨L2.Same.refl H2,rfl⟩ (fun i ys G _ hp'=>.of (hp'.1 _ _ hls)) (fun i y ys G hy hp'=>?_) fun ys G hp'=>?_⟩
  ·obtain ⟨sG,rfl⟩:=hp';obtain ⟨t,ab,rfl,hab,et⟩:=stn hy;obtain ⟨e1,e2⟩:=stp_at.mp hab;ext;refine qai ?_;ext;refine ⟨x,wx,_,rfl,(s02.trans sG) _ _ hb,jY (by decide +kernel),?_⟩;ext;refine ⟨x,t,ss,ns,tps,ab,rfl,R.web.same (s02.trans sG),R.adj,sG _ _ et,(RG.tie i ab hab).1,RG.inn _ (ye e1),RG.inn _ (ye e2),fun z=>?_,fun G2 sG2=>?_⟩
   ·rw [<- z] at e2;exact absurd (qw RG.nd e1 e2) (by omega)
   ·refine ⟨by rw [ya,ya,yR];exact qi (by omega),sG.trans sG2,?_⟩;rw [yQ,hab,yG,yG];rfl
  ·obtain ⟨sG,rfl⟩:=hp';rw [show (ts.map V.ref).length=(stp rs).length by rw [ya,tl],yV];refine ⟨by rw [ya,ya];exact yZ (qi (by omega)),fun g hg=>?_⟩;have s3:=qL sG (o:=.lst (((stp rs).map fun _=>true).map V.bl)) hg;have eg:upd G g (.lst (((stp rs).map fun _=>true).map V.bl)) g=some (.lst (((stp rs).map fun _=>true).map V.bl)):=qb;generalize upd G g (.lst (((stp rs).map fun _=>true).map V.bl))=G3 at s3 eg;ext;refine ⟨g,_,rfl,SqL.of eg,_,rfl,?_⟩;rw [qfp (fun b hb=>by obtain ⟨_,_,rfl⟩:=Yd.mp hb;rfl)];have s03:=s02.trans s3;refine yq ?_;have hls3:=s3 _ _ hls;have hd3:=s03 _ _ hd;ext;refine .inl ⟨⟨_,.of hls3⟩,jo (xs:=ts.map V.ref) (fun i ys G=>G=G3/\ys=(((stp rs).take i).map (prB qs)).map V.bl) ⟨rfl,rfl⟩ (fun i ys G _ hp'=>by rw [hp'.1];exact .of hls3) (fun i y ys G hy hp'=>?_) fun ys G hp'=>?_⟩
   ·obtain ⟨rfl,rfl⟩:=hp';obtain ⟨t,ab,rfl,hab,et⟩:=stn hy;have et:=s3 _ _ et;ext;refine qai ?_;ext;refine qb8 ?_;ext;refine ⟨d,rfl,.inl ⟨_,.inl hd3⟩,?_⟩;ext;refine .inl (qaY et (v:=.str ab.1) (qA (j:=0) rfl) ?_);refine ⟨_,DGet.k (k:=Sum.inr ab.1) hd3,?_⟩;rw [jD];ext;refine .inl (qaY et (v:=.str ab.2) (qA (j:=1) rfl) ?_);refine qeS ?_;refine ⟨by rw [ya,ya,yR];exact qi (by omega),rfl,?_⟩;rw [yQ,hab,yG,yG];rfl
   ·obtain ⟨rfl,rfl⟩:=hp';rw [show (ts.map V.ref).length=(stp rs).length by rw [ya,tl],yV];refine ⟨by rw [ya,ya];exact yZ (qi (by omega)),fun b hb9=>?_⟩;obtain ⟨bs,hbs⟩:∃ bs,bs=(stp rs).map (prB qs):=⟨_,rfl⟩;rw [<- hbs];have hbl:bs.length<=1000:=by rw [hbs,ya];exact hll
    have hbd:∀ (i:Nat) b,bs[i]?=some b->b=decide (i % 2=1):=fun i b e=>by
     rw [hbs,yd] at e;obtain ⟨ab,hab,rfl⟩:=yn.mp e;exact (RG.tie i ab hab).2
    have s4:=qL s03 (o:=.lst (bs.map V.bl)) hb9;have eb:upd G b (.lst (bs.map V.bl)) b=some (.lst (bs.map V.bl)):=qb;generalize upd G b (.lst (bs.map V.bl))=G4 at s4 eb;ext;refine vZip ?_;ext;refine .inl ⟨b,_,rfl,SqL.of eb,fun c2 hc2=>?_⟩;rw [qaJ,<- ko];have s5:=qL s4 (o:=.lst (bs.tail.map V.bl)) hc2;have eb5:=qL (Sr G4) (o:=.lst (bs.tail.map V.bl)) hc2 _ _ eb;have ec5:upd G4 c2 (.lst (bs.tail.map V.bl)) c2=some (.lst (bs.tail.map V.bl)):=qb;generalize upd G4 c2 (.lst (bs.tail.map V.bl))=G5 at s5 eb5 ec5;ext;refine ⟨b,c2,_,_,rfl,SqL.of eb5,SqL.of ec5,comp_zip (xs:=bs.map V.bl) (ys:=bs.tail.map V.bl) (by simp) (fun i zs J=>L2.Same G5 J/\zs=(List.replicate i true).map V.bl) ⟨L2.Same.refl G5,rfl⟩ (fun i zs J _ hp'=>⟨SqL.of (hp'.1 _ _ eb5),SqL.of (hp'.1 _ _ ec5)⟩) (fun i u v t zs J hu1 hv1 ht hp'=>?_) fun zs J hp'=>?_⟩
    ·obtain ⟨sJ,rfl⟩:=hp';rw [yd] at hu1 hv1;obtain ⟨u,hu2,rfl⟩:=yn.mp hu1;obtain ⟨v,hv2,rfl⟩:=yn.mp hv1;clear hu1 hv1;have hil:=(yc.mp hu2).1;rw [xK] at hv2;have e1:=hbd _ _ hu2;have e2:=hbd _ _ hv2;have sJ3:=qL sJ (o:=.tup [.bl u,.bl v]) ht;refine ⟨t,_,rfl,.of qb,rfl,_,_,rfl,_,_,rfl,rfl,?_⟩;generalize upd J t (.tup [.bl u,.bl v])=J3 at sJ3;ext;refine qai ?_;ext;refine .inl ⟨rfl,rfl,?_⟩;refine ⟨by rw [ya,YH];exact qi (by omega),sJ3,?_⟩
     have hne:v=!u:=by
      rw [e1,e2];rcases Nat.mod_two_eq_zero_or_one i with z | z
      ·rw [z,yI (by omega)];rfl
      ·rw [z,yl (by omega)];rfl
     rw [List.replicate_succ',yG,hne];cases u<;>rfl
    ·obtain ⟨sJ,rfl⟩:=hp';rw [show (bs.tail.map V.bl).length=bs.length - 1 by rw [ya,xG]];refine ⟨by rw [ya,YH];exact yZ (qi (by omega)),fun e he=>?_⟩;have s6:=qL (s5.trans sJ) (o:=.lst ((List.replicate (bs.length - 1) true).map V.bl)) he;have ee:upd J e (.lst ((List.replicate (bs.length - 1) true).map V.bl)) e=some (.lst ((List.replicate (bs.length - 1) true).map V.bl)):=qb;generalize upd J e (.lst ((List.replicate (bs.length - 1) true).map V.bl))=J6 at s6 ee;ext;refine ⟨e,_,rfl,SqL.of ee,?_⟩;rw [qfp (fun b hb=>(List.mem_replicate.mp hb).2)];exact q J6 s6
theorem ok_ir (F:Fun K "is_row" "is_row" qaI f fd) (T:Txt K mg cc cw) (kW:DefOk P w K mg base CX0 9 "partners_in" ["web","pairs"] (spPn cw)) (KM:DefOk P w K mg base CX0 4 "are_unlike_places" ["web","thing"] (spUl cw)) (K3:DefOk P w K mg base CX0 8 "goes_by_turns" ["web","partners","names"] (spGt cw)):FnOk P w K mg base CX0 10 f fd ["web","pairs","thing"] (spIr cw):=by
 refine F.ok ua fun _ _ _ _ H vs Q E hr h=>?_
 ·obtain ⟨x,l,a,ss,ns,us,tps,qs,rs,rfl,R,q⟩:=h;have hu:=za hr;have G:=R.rok;have h2:=G.two;refine ⟨_,(qc (qo (i:=3) ua.nd rfl (yJ rfl) (qt kW (hmR hr) qF (qa (pv 0) (qa (pv 1) qd))))
 (qc (qP (PW.pt (qaA (jd (qX (qt KM (hmR hr) qF (qa (pv 0) (qa (pv 2) qd))))) (qab (qp qdj (qk (zr (K:=K) rfl) rfl T.b_len Y0 (qa (pv 2) qd)) qg (qD _))))) (qf (qm jW)) qv)
 (qf (qm (qt K3 (hmR hr) qF (qa (pv 0) (qa (pv 3) (qa (pv 2) qd)))))))),?_⟩
  ext;refine ⟨x,l,ss,ns,us,tps,qs,rfl,R.web,R.adj,R.prs,R.pgo,fun d H1 s1 hd0 hd=>?_⟩;ext;refine ⟨x,a,ss,ns,rs,rfl,R.web.same s1,s1 _ _ R.row,G.nd,G.few,G.inn,fun H2 s2=>?_⟩;have s02:=s1.trans s2;ext;refine yq ?_;ext;refine .inl ⟨_,.inl (SqL.of (s02 _ _ R.row)),?_⟩;rw [ya];ext;refine qU (fun h=>absurd (yk h) (by omega)) fun _=>?_;ext;exact ⟨x,l,d,a,ss,ns,us,tps,qs,rs,rfl,R.same s02,s2 _ _ hd,fun H3 s3=>q H3 (s02.trans s3)⟩
theorem qew {t:Addr} {n:Str} {Q:VK} (e:H t=some (.tup [.non,.str n])) (q:Q (.bl true) H):qd2 K false .non (.ref t) H Q:=
 .inl ⟨t,_,rfl,.inr (SqT.of e),rfl,rfl,q⟩
theorem ok_ct (F:Fun K "can_turn" "can_turn" zM f fd) (T:Txt K mg cc cw) (kW:DefOk P w K mg base CX0 9 "partners_in" ["web","pairs"] (spPn cw)) (uK:DefOk P w K mg base CX0 10 "is_row" ["web","pairs","thing"] (spIr cw)):FnOk P w K mg base CX0 11 f fd ["web","pairs","thing"] (spIr cw):=by
 refine F.ok Kv fun _ _ _ _ H vs Q E hr h=>?_
 ·obtain ⟨x,l,a,ss,ns,us,tps,qs,rs,rfl,R,q⟩:=h;have hu:=za hr;have G:=R.rok;have h2:=G.two;refine ⟨_,(qc (qP (jd (qX (qt uK (hmR hr) qF (qa (pv 0) (qa (pv 1) (qa (pv 2) qd)))))) (qf (qm jW)) qv)
 (qc (qo (i:=3) Kv.nd rfl (yJ rfl) (qt kW (hmR hr) qF (qa (pv 0) (qa (pv 1) qd))))
 (qc (qo (i:=4) Kv.nd rfl (yJ rfl) (qah (qfk hu) (pv 3) (qx (qy (K:=K) rfl hu) (pv 2) qg (fun _ _=>rfl)) ⟨rfl,rfl,rfl,rfl⟩))
 (qc (qo (i:=5) Kv.nd rfl (yJ rfl) (qah (qfk hu) (pv 3) (qx (qy (K:=K) rfl hu) (pv 2) (qaQ zx qg) (fun _ _=>rfl)) ⟨rfl,rfl,rfl,rfl⟩))
 (qf (qm (qbK (jC (zW (K:=K) rfl hu) (pv 4) (ju (qa zS (qa (qx (qy (K:=K) rfl hu) (pv 2) qg (fun _ _=>rfl)) qd))) (by with_unfolding_all rfl)) (qbJ (jC (zW (K:=K) rfl hu) (pv 5) (ju (qa zS (qa (qx (qy (K:=K) rfl hu) (pv 2) (qaQ zx qg) (fun _ _=>rfl)) qd))) (by with_unfolding_all rfl)))))))))),?_⟩
  ext;refine ⟨x,l,a,ss,ns,us,tps,qs,rs,rfl,R,fun H1 s1=>?_⟩;refine ⟨_,rfl,qU (fun h=>by cases h) fun _=>?_⟩;ext;refine ⟨x,l,ss,ns,us,tps,qs,rfl,R.web.same s1,R.adj,R.prs.same s1,R.pgo,fun d H2 s2 hd0 hd=>?_⟩;obtain ⟨n0,g0⟩:∃ n0,rs[0]?=some n0:=⟨_,yb (by omega)⟩;obtain ⟨n1,g1⟩:∃ n1,rs[1]?=some n1:=⟨_,yb (by omega)⟩;obtain ⟨m0,k0⟩:∃ m0,rs[rs.length - 1]?=some m0:=⟨_,yb (by omega)⟩;obtain ⟨m1,k1⟩:∃ m1,rs[rs.length - 2]?=some m1:=⟨_,yb (by omega)⟩;have s02:=s1.trans s2;have ha:=R.row;have ha2:=s02 _ _ ha;have at_:∀ {j:Nat} {n:Str},rs[j]?=some n->(rs.map V.str)[j]?=some (.str n):=fun e=>by rw [yd,e];rfl
  have back:∀ {j:Nat} {n:Str},1<=j->j<=rs.length->rs[rs.length - j]?=some n->atI (rs.map V.str) (-(j:Int))=some (.str n):=fun l1 l2 e=>atI_back l1 (by rw [ya];exact l2) (by rw [ya];exact at_ e);ext;refine qb8 ?_;ext;refine ⟨d,rfl,.inl ⟨_,.inl hd⟩,?_⟩;ext;refine .inl (zR ha2 (v:=.str n0) (qA (j:=0) (at_ g0)) ?_);refine ⟨_,DGet.k (k:=Sum.inr n0) hd,?_⟩;rw [jD,G.hd _ g0];ext;refine qb8 ?_;ext;refine ⟨d,rfl,.inl ⟨_,.inl hd⟩,?_⟩;ext;refine ⟨1,rfl,?_⟩;refine .inl (zR ha2 (v:=.str m0) (back (j:=1) (by decide) (by omega) k0) ?_);refine ⟨_,DGet.k (k:=Sum.inr m0) hd,?_⟩;rw [jD,G.tl _ k0];ext;refine .inl (zR ha2 (v:=.str n1) (qA (j:=1) (at_ g1)) ?_);ext;refine ⟨by show 2<=sizeLine;decide,fun t ht=>qew qb ?_⟩;have s3:=qL s02 (o:=.tup [.non,.str n1]) ht;generalize upd H2 t (.tup [.non,.str n1])=H3 at s3;refine ⟨_,rfl,qai ?_⟩;ext;refine ⟨2,rfl,?_⟩;refine .inl (zR (s3 _ _ ha) (v:=.str m1) (back (j:=2) (by decide) (by omega) k1) ?_);ext;exact ⟨by show 2<=sizeLine;decide,fun t2 ht2=>qew qb (q _ (qL s3 ht2))⟩
theorem KP:FnScope ["web","pairs","row","partners","steps"] ["web","pairs","row"] (qh qar):=fS
noncomputable def qdQ (rs:List Str):List (Str×Str):=stp rs++(stp rs).map fun q=>(q.2,q.1)
noncomputable def flT (dps qs:List (Str×Str)) (rs:List Str):List (Str×Str):=dps.filter fun q=>decide (pt qs q.1=some q.2) != decide (q∈qdQ rs)
inductive spTu (cw:Addr) (vs:List V) (H:Hp) (Q:VK) (E:XK):Prop|mk (x l a:Addr) (ss:List Str) (ns:List Nat) (us:List Addr) (tps qs:List (Str×Str)) (rs:List Str) (_:vs=[.ref x,.ref l,.ref a]) (_:Rw cw H x l a ss ns us tps qs rs) (_:∀ (l:Addr) (ls:List Addr) (H':Hp),L2.Same H H'->H l=none->H' l=some (.lst (ls.map V.ref))->ls.length<=196->All2 (PrAt H H' l) ls (flT (qK ss ns ss.length) qs rs)->Q (.ref l) H')
theorem All2.app9 {R:α->β->Prop} {l1 l2:List α} {m1 m2:List β} (a:All2 R l1 m1) (b:All2 R l2 m2):All2 R (l1++l2) (m1++m2):=by
 refine ⟨by rw [yt,yt,a.len,b.len],fun k x y hx hy=>?_⟩;by_cases hk:k < l1.length
 ·rw [yS hk] at hx;rw [yS (by rw [<- a.len];exact hk)] at hy;exact a.at_ k x y hx hy
 ·rw [yD (by omega)] at hx;rw [yD (by rw [<- a.len];omega),<- a.len] at hy;exact b.at_ _ x y hx hy
theorem cat_W {a b:Addr} {Q:VK} (ea:G a=some (.lst xs)) (eb:G b=some (.lst ys)) (hl:xs.length + ys.length<=2000) (q:∀ p,G p=none->Q (.ref p) (upd G p (.lst (xs++ys)))):qcs K (.ref a) (.ref b) G Q:=.inl ⟨a,b,_,_,rfl,rfl,ea,eb,yi hl (by decide),q⟩
theorem ok_tu (F:Fun K "turned" "turned" qar f fd) (T:Txt K mg cc cw) (kW:DefOk P w K mg base CX0 9 "partners_in" ["web","pairs"] (spPn cw)) (Kp:MethOk P w K mg base CX0 7 cw "ties" ["self"] (spTs cw)) (uw:DefOk P w K mg base CX0 11 "can_turn" ["web","pairs","thing"] (spIr cw)):FnOk P w K mg base CX0 12 f fd ["web","pairs","row"] (spTu cw):=by
 refine F.ok KP fun _ _ _ _ H vs Q E hr h=>?_
 ·obtain ⟨x,pl,a,ss,ns,ps,tps,qs,rs,rfl,R,q⟩:=h;have hu:=za hr;obtain ⟨wx,dd,ol,nn,hb,_⟩:=id R.web;have ha:=R.row;have hxl:=R.rok.few;have h2:=R.rok.two;refine ⟨_,(qc (qP (jd (qX (qt uw (hmR hr) qF (qa (pv 0) (qa (pv 1) (qa (pv 2) qd)))))) (qf jv) qv)
 (qc (qo (i:=3) KP.nd rfl (X2 rfl) (qt kW (hmR hr) qF (qa (pv 0) (qa (pv 1) qd))))
 (qc (qo (i:=4) KP.nd rfl (X2 rfl) (qC (zc (K:=K) rfl) (qcx (K:=K) rfl rfl rfl rfl T.b_list T.b_zip (qa (pv 2) (qa (jZ (qel (K:=K) rfl) (pv 2) (jI qg) zy) qd))) (qcx (K:=K) rfl rfl rfl rfl T.b_list T.b_zip (qa (jZ (qel (K:=K) rfl) (pv 2) (jI qg) zy) (qa (pv 2) qd)))))
 (qf (qm (jw (sc:=qh qar) (XN:=["web","pairs","row","partners","steps"]) ["tie","steps","partners"] 1 [4,3] rfl rfl rfl (by decide +kernel) rfl (by decide +kernel)
  (jg (K:=K) rfl (qZ Kp (hmR hr) (pv 0))) (fun _ _ _ _=>(qr (i:=0) (show (["tie","steps","partners"]:List Str).Nodup by decide +kernel) rfl (yJ rfl))) ji
  (fun _ _ _ _=>(jO (qp (qaB (K:=K) rfl hu) (jC (zX (K:=K) rfl hu) (qah (qfk hu) (pv 2) (qx (qy (K:=K) rfl hu) (pv 0) qg (fun _ _=>rfl)) ⟨rfl,rfl,rfl,rfl⟩) (qx (qy (K:=K) rfl hu) (pv 0) qg (fun _ _=>rfl)) (qD _)) (jC (zW (K:=K) rfl hu) (pv 0) (pv 1) (by with_unfolding_all rfl)) (qD _))))
  (fun _ _ _ _=>(pv 0)))))))),?_⟩
  ext;refine ⟨x,pl,a,ss,ns,ps,tps,qs,rs,rfl,R,fun H1 s1=>?_⟩;refine ⟨_,rfl,qU (fun h=>by cases h) fun _=>?_⟩;ext;refine ⟨x,pl,ss,ns,ps,tps,qs,rfl,R.web.same s1,R.adj,R.prs.same s1,R.pgo,fun d H2 s2 hd0 hd=>?_⟩;have s02:=s1.trans s2;have ha2:=s02 _ _ ha;ext;refine vLZ ?_;ext;refine .inl ⟨a,_,rfl,SqL.of ha2,fun c1 hc1=>?_⟩;rw [qaJ,<- ko];have t1:=qL (Sr H2) (o:=.lst (rs.tail.map V.str)) hc1;have ec1:upd H2 c1 (.lst (rs.tail.map V.str)) c1=some (.lst (rs.tail.map V.str)):=qb;generalize upd H2 c1 (.lst (rs.tail.map V.str))=G1 at t1 ec1;ext;refine ⟨a,c1,_,_,rfl,SqL.of (t1 _ _ ha2),SqL.of ec1,by rw [ya];exact hxl,fun l1 ts1 G2 Z1=>?_⟩;have t2:=t1.trans Z1.sm;ext;refine vLZ ?_;ext;refine .inl ⟨a,_,rfl,SqL.of (t2 _ _ ha2),fun c2 hc2=>?_⟩;rw [qaJ,<- ko];have t3:=qL (Sr G2) (o:=.lst (rs.tail.map V.str)) hc2;have ec2:upd G2 c2 (.lst (rs.tail.map V.str)) c2=some (.lst (rs.tail.map V.str)):=qb;generalize upd G2 c2 (.lst (rs.tail.map V.str))=G3 at t3 ec2;have t23:=t2.trans t3;ext;refine ⟨c2,a,_,_,rfl,SqL.of ec2,SqL.of (t23 _ _ ha2),by rw [ya,xG];omega,fun l2 ts2 G4 Z2=>?_⟩;have t4:=t23.trans Z2.sm;have t24:=t3.trans Z2.sm
  have A1:=qdP (qs:=stp rs) Z1 (by rw [zZ,xG];omega) fun j q e=>by
   obtain ⟨z1,z2⟩:=stp_at.mp e;exact ⟨z1,by rw [xK];exact z2⟩
  have A2:=qdP (qs:=(stp rs).map fun q=>(q.2,q.1)) Z2 (by rw [ya,zZ,xG];omega) fun j q e=>by
   rw [yd] at e;obtain ⟨q',e',rfl⟩:=yn.mp e;obtain ⟨z1,z2⟩:=stp_at.mp e';exact ⟨by rw [xK];exact z2,z1⟩
  have hl1:ts1.length<=1000:=by rw [A1.len,zZ];omega
  have hl2:ts2.length<=1000:=by rw [A2.len,ya,zZ];omega
  refine cat_W (t24 _ _ Z1.ls) Z2.ls (by rw [ya,ya,A1.len,A2.len,ya,zZ];omega) fun st hst=>?_;have t5:=qL (Sr G4) (o:=.lst (ts1.map V.ref++ts2.map V.ref)) hst;have est:upd G4 st (.lst (ts1.map V.ref++ts2.map V.ref)) st=some (.lst (ts1.map V.ref++ts2.map V.ref)):=qb;generalize upd G4 st (.lst (ts1.map V.ref++ts2.map V.ref))=G5 at t5 est;have t25:=t4.trans t5;have hPS:PL G5 st (ts1++ts2) (qdQ rs):=⟨by rw [yG];exact est,All2.app9 (A1.mono fun _ _ z=>(t24.trans t5) _ _ z) (A2.mono fun _ _ z=>t5 _ _ z)⟩;have s05:=s02.trans t25;have hd5:=t25 _ _ hd;ext;refine ⟨x,wx,_,rfl,s05 _ _ hb,jY (by decide +kernel),?_⟩;ext;refine ⟨x,ss,ns,rfl,R.web.same s05,fun l ts G6 s6 hl0 hl hl196 hAl=>?_⟩;have s06:=s05.trans s6;have hd6:=s6 _ _ hd5;have hPS6:=hPS.same s6;refine .inl ⟨⟨_,.of hl⟩,jo (xs:=ts.map V.ref) (fun i ys G=>G=G6/\∃ us:List Addr,ys=us.map V.ref/\us.length<=i/\All2 (fun t ab=>G5 t=none/\G6 t=some (.tup [.str ab.1,.str ab.2])) us (flT ((qK ss ns ss.length).take i) qs rs)) ⟨rfl,[],rfl,yh _,.nil⟩ (fun i ys G _ hp'=>by rw [hp'.1];exact .of hl) (fun i y ys G hy hp'=>?_) fun ys G hp'=>?_⟩
  ·obtain ⟨rfl,us,rfl,hul,hU⟩:=hp';rw [yd] at hy;obtain ⟨t,ht,rfl⟩:=yn.mp hy;have hi:i < ts.length:=(yc.mp ht).1;obtain ⟨ab,hab⟩:∃ ab,(qK ss ns ss.length)[i]?=some ab:=⟨_,yb (by rw [<- hAl.len];exact hi)⟩;obtain ⟨z1,z2,z3⟩:=hAl.at_ i t ab ht hab
   have hstep:flT ((qK ss ns ss.length).take (i + 1)) qs rs=flT ((qK ss ns ss.length).take i) qs rs++(if (decide (pt qs ab.1=some ab.2) != decide (ab∈qdQ rs))=true then [ab] else []):=by
    unfold flT;rw [yQ,hab,Yp];show _++[ab].filter _=_;rw [yU,YK]
   ext;refine qb8 ?_;ext;refine ⟨d,rfl,.inl ⟨_,.inl hd6⟩,?_⟩;ext;refine .inl (qaY z3 (v:=.str ab.1) (qA (j:=0) rfl) ?_);refine ⟨_,DGet.k (k:=Sum.inr ab.1) hd6,?_⟩;rw [jD];ext;refine .inl (qaY z3 (v:=.str ab.2) (qA (j:=1) rfl) ?_);refine qeS ?_;ext;refine pl_in hPS6 z3 ?_;refine .inl ⟨rfl,rfl,?_⟩;have eb:eqV (.bl (decide (pt qs ab.1=some ab.2))) (.bl (decide ((ab.1,ab.2)∈qdQ rs)))=(decide (pt qs ab.1=some ab.2)==decide (ab∈qdQ rs)):=rfl;rw [yE rfl,eb,hstep];refine ⟨_,rfl,?_⟩;show if (decide (pt qs ab.1=some ab.2) != decide (ab∈qdQ rs))=true then _ else _
   cases hne:(decide (pt qs ab.1=some ab.2) != decide (ab∈qdQ rs)) with
   | true =>
    refine qai ?_;rw [yE rfl];ext;exact ⟨by rw [ya];exact qi (by omega),rfl,us++[t],by rw [yG];rfl,by rw [yt];simp;omega,hU.snoc ⟨z1,z3⟩⟩
   | false =>
    refine yq ?_;rw [yy (by decide),Yr];exact ⟨rfl,us,rfl,by omega,hU⟩
  ·obtain ⟨rfl,us,rfl,hul,hU⟩:=hp';have e:(ts.map V.ref).length=(qK ss ns ss.length).length:=by rw [ya,hAl.len]
   rw [e,yV] at hU;rw [ya] at hul;refine ⟨by rw [ya];exact yZ (qi (by omega)),fun g hg=>?_⟩;have s7:=qL s06 (o:=.lst (us.map V.ref)) hg;exact q g us _ s7 (s06.free hg) qb (by omega) (hU.mono fun t ab z=>⟨s05.free z.1,(fun e=>by rw [e,hg] at z;cases z.2),by rw [qe (fun e=>by rw [e,hg] at z;cases z.2)];exact z.2⟩)
noncomputable def adjR (rs:List Str) (a b:Str):Prop:=∃ j:Nat,(rs[j]?=some a/\rs[j + 1]?=some b)\/(rs[j]?=some b/\rs[j + 1]?=some a)
theorem adjR.symm (h:adjR rs a b):adjR rs b a:=h.elim fun j z=>⟨j,z.symm⟩
theorem adjR.mem (h:adjR rs a b):a∈rs/\b∈rs:=h.elim fun j z=>z.elim (fun y=>⟨ye y.1,ye y.2⟩) fun y=>⟨ye y.2,ye y.1⟩
structure TurnR (f:Str->Option Str) (rs:List Str):Prop where
 nd:rs.Nodup
 two:2<=rs.length
 sym:∀ a b,f a=some b->f b=some a
 alt:∀ (j:Nat) r s t,rs[j]?=some r->rs[j + 1]?=some s->rs[j + 2]?=some t->(f s=some r↔¬ f s=some t)
 fst:∀ s t,rs[0]?=some s->rs[1]?=some t->f s=none\/f s=some t
 lst:∀ s t,rs[rs.length - 1]?=some s->rs[rs.length - 2]?=some t->f s=none\/f s=some t
theorem TurnR.near {f:Str->Option Str} (h:TurnR f rs) (ha:a∈rs) (hf:f a=some b):adjR rs a b:=by
 obtain ⟨i,hi⟩:=yf ha;have hil:i < rs.length:=(yc.mp hi).1;have h2:=h.two;by_cases h0:i=0
 ·subst h0;obtain ⟨t,ht⟩:∃ t,rs[1]?=some t:=⟨_,yb (by omega)⟩;rcases h.fst a t hi ht with z | z
  ·rw [z] at hf;cases hf
  ·rw [hf] at z;cases z;exact ⟨0,.inl ⟨hi,ht⟩⟩
 ·by_cases hl:i=rs.length - 1
  ·obtain ⟨t,ht⟩:∃ t,rs[rs.length - 2]?=some t:=⟨_,yb (by omega)⟩;rcases h.lst a t (by rw [<- hl];exact hi) ht with z | z
   ·rw [z] at hf;cases hf
   ·rw [hf] at z;cases z;exact ⟨rs.length - 2,.inr ⟨ht,by rw [show rs.length - 2 + 1=i by omega];exact hi⟩⟩
  ·obtain ⟨r,hr⟩:∃ r,rs[i - 1]?=some r:=⟨_,yb (by omega)⟩;obtain ⟨t,ht⟩:∃ t,rs[i + 1]?=some t:=⟨_,yb (by omega)⟩;have hi1:i - 1 + 1=i:=by omega
   have hi2:i - 1 + 2=i + 1:=by omega
   have:=h.alt (i - 1) r a t hr (by rw [hi1];exact hi) (by rw [hi2];exact ht);by_cases z:f a=some t
   ·rw [hf] at z;cases z;exact ⟨i,.inl ⟨hi,ht⟩⟩
   ·have z:=this.mpr z;rw [hf] at z;cases z;exact ⟨i - 1,.inr ⟨hr,by rw [hi1];exact hi⟩⟩
noncomputable def flipR (f:Str->Option Str) (rs:List Str) (a b:Str):Prop:=(a∉rs/\f a=some b)\/(adjR rs a b/\f a≠some b)
theorem TurnR.xor {f:Str->Option Str} (h:TurnR f rs):flipR f rs a b↔¬ (f a=some b↔adjR rs a b):=by
 unfold flipR;constructor
 ·rintro (⟨h1,h2⟩ | ⟨h1,h2⟩) e
  ·exact h1 (e.mp h2).mem.1
  ·exact h2 (e.mpr h1)
 ·intro e;by_cases h1:f a=some b
  ·refine .inl ⟨fun hm=>e ⟨fun _=>h.near hm h1,fun _=>h1⟩,h1⟩
  ·by_cases h2:adjR rs a b
   ·exact .inr ⟨h2,h1⟩
   ·exact absurd ⟨fun z=>absurd z h1,fun z=>absurd z h2⟩ e
theorem flipR.symm {f:Str->Option Str} (h:TurnR f rs) (e:flipR f rs a b):flipR f rs b a:=by
 rcases e with ⟨h1,h2⟩ | ⟨h1,h2⟩
 ·refine .inl ⟨fun hm=>?_,h.sym _ _ h2⟩;exact h1 (h.near hm (h.sym _ _ h2)).mem.2
 ·exact .inr ⟨h1.symm,fun z=>h2 (h.sym _ _ z)⟩
theorem adjR.at_ (nd:rs.Nodup) (hi:rs[i]?=some a) (h:adjR rs a b):rs[i + 1]?=some b\/(1<=i/\rs[i - 1]?=some b):=by
 obtain ⟨j,⟨h1,h2⟩ | ⟨h1,h2⟩⟩:=h
 ·have:=qw nd hi h1;subst this;exact .inl h2
 ·have:=qw nd hi h2;subst this;exact .inr ⟨by omega,by simpa using h1⟩
theorem flipR.one {f:Str->Option Str} (h:TurnR f rs) (e1:flipR f rs a b) (e2:flipR f rs a c):b=c:=by
 rcases e1 with ⟨h1,h2⟩ | ⟨h1,h2⟩
 ·rcases e2 with ⟨h3,h4⟩ | ⟨h3,h4⟩
  ·rw [h2] at h4;exact ym h4
  ·exact absurd h3.mem.1 h1
 ·rcases e2 with ⟨h3,h4⟩ | ⟨h3,h4⟩
  ·exact absurd h1.mem.1 h3
  ·obtain ⟨i,hi⟩:=yf h1.mem.1
   have key:∀ {b c:Str},rs[i + 1]?=some b->1<=i->rs[i - 1]?=some c->f a≠some b->f a≠some c->False:=fun hb h1' hc n1 n2=>by
    have hi1:i - 1 + 1=i:=by omega
    have hi2:i - 1 + 2=i + 1:=by omega
    exact n2 ((h.alt (i - 1) _ a _ hc (by rw [hi1];exact hi) (by rw [hi2];exact hb)).mpr n1)
   rcases h1.at_ h.nd hi with z1 | ⟨l1,z1⟩<;>rcases h3.at_ h.nd hi with z2 | ⟨l2,z2⟩
   ·rw [z1] at z2;exact ym z2
   ·exact (key z1 l2 z2 h2 h4).elim
   ·exact (key z2 l1 z1 h4 h2).elim
   ·rw [z1] at z2;exact ym z2
theorem TurnR.again {f:Str->Option Str} (h:TurnR f rs) (hg:∀ a b,g a=some b↔flipR f rs a b):TurnR g rs:=by
 have on:∀ {a b:Str},adjR rs a b->(g a=some b↔¬ f a=some b):=fun hab=>by
  rw [hg,h.xor];constructor
  ·exact fun e z=>e ⟨fun _=>hab,fun _=>z⟩
  ·exact fun e z=>e (z.mpr hab)
 have only:∀ {a b:Str},a∈rs->g a=some b->adjR rs a b:=fun ha e=>by
  rcases (hg _ _).mp e with ⟨h1,_⟩ | ⟨h1,_⟩
  ·exact absurd ha h1
  ·exact h1
 refine ⟨h.nd,h.two,fun a b e=>(hg _ _).mpr (((hg _ _).mp e).symm h),fun j r s t hr hs ht=>?_,fun s t hs ht=>?_,fun s t hs ht=>?_⟩
 ·have a1:adjR rs s r:=⟨j,.inr ⟨hr,hs⟩⟩;have a2:adjR rs s t:=⟨j + 1,.inl ⟨hs,ht⟩⟩;rw [on a1,on a2,h.alt j r s t hr hs ht]
 ·cases e:g s with
  | none=>exact .inl rfl
  | some b =>
   have:=(only (ye hs) e).at_ h.nd hs;rcases this with z | ⟨z,_⟩
   ·rw [ht] at z;exact .inr (by rw [<- e,e];exact z.symm ▸ rfl)
   ·omega
 ·cases e:g s with
  | none=>exact .inl rfl
  | some b =>
   have h2:=h.two;have:=(only (ye hs) e).at_ h.nd hs;rcases this with z | ⟨_,z⟩
   ·have:=(yc.mp z).1;omega
   ·rw [show rs.length - 1 - 1=rs.length - 2 by omega,ht] at z;exact .inr (by rw [<- z])
theorem TurnR.inner {f:Str->Option Str} (h:TurnR f rs) (h0:0 < i) (h1:i + 1 < rs.length) (hs:rs[i]?=some s):(f s).isSome=true:=by
 obtain ⟨r,hr⟩:∃ r,rs[i - 1]?=some r:=⟨_,yb (by omega)⟩;obtain ⟨t,ht⟩:∃ t,rs[i + 1]?=some t:=⟨_,yb h1⟩;have:=h.alt (i - 1) r s t hr (by rw [show i - 1 + 1=i by omega];exact hs) (by rw [show i - 1 + 2=i + 1 by omega];exact ht)
 cases e:f s with
 | some _=>rfl
 | none =>
  rw [e] at this;have:=this.mpr (fun z=>by cases z);cases this
theorem qc6 {f:Str->Option Str} (h:TurnR f rs) (hg:∀ a b,g a=some b↔flipR f rs a b) {t:Str} (hadj:adjR rs a t) (hf:f a=none\/f a=some t) (hg2:g a=none\/g a=some t):(g a).isSome=!(f a).isSome:=by
 rcases hf with z | z
 ·rw [(hg a t).mpr (.inr ⟨hadj,by rw [z];exact fun y=>by cases y⟩),z];rfl
 ·rcases hg2 with y | y
  ·rw [y,z];rfl
  ·exact absurd ⟨fun _=>hadj,fun _=>z⟩ (h.xor.mp ((hg a t).mp y))
theorem qdR {f:Str->Option Str} (h:TurnR f rs) (ha:rs[0]?=some a) (hb:rs[rs.length - 1]?=some b):(rs.filter fun s=>(f s).isSome).length + 2=rs.length + (if (f a).isSome then 1 else 0) + (if (f b).isSome then 1 else 0):=by
 have h2:=h.two
 obtain ⟨m,hm⟩:∃ m,rs=a::(m++[b]):=by
  match rs,ha,hb,h2 with
  | x::r,ha,hb,h2 =>
   have hx:x=a:=ym ha;have hr:r≠[]:=fun z=>by rw [z] at h2;simp at h2
   refine ⟨r.dropLast,?_⟩
   have e:r.getLast hr=b:=by
    have hl:0 < r.length:=List.length_pos_iff.mpr hr;rw [show (x::r).length - 1=r.length - 1 + 1 by simp;omega,List.getElem?_cons_succ] at hb;rw [List.getLast_eq_getElem];exact (yc.mp hb).2
   rw [hx,<- e,Y3]
 have hml:rs.length=m.length + 2:=by rw [hm];simp
 have hmid:(m.filter fun s=>(f s).isSome)=m:=XW.mpr fun s hs=>by
  obtain ⟨i,hi⟩:=yf hs;have hil:=(yc.mp hi).1;refine h.inner (i:=i + 1) (by omega) (by omega) ?_;rw [hm,List.getElem?_cons_succ,yS hil];exact hi
 rw [hml,hm,yU,Yp,hmid,yU,YK];cases (f a).isSome<;>cases (f b).isSome<;>simp<;>omega
theorem qcd (hn:ss.Nodup) (hr:rs.Nodup) (hin:∀ s∈rs,s∈ss) (p:Str->Bool):(ss.filter p).length=(rs.filter p).length + (ss.filter fun s=>p s&&!decide (s∈rs)).length:=by
 have e1:(rs.filter p).length=(ss.filter fun s=>p s&&decide (s∈rs)).length:=xM
  (qc3 (hr.filter _) fun s hs=>by
   obtain ⟨a,b⟩:=yp.mp hs;exact yp.mpr ⟨hin s a,by rw [b,yI a];rfl⟩)
  (qc3 (hn.filter _) fun s hs=>by
   obtain ⟨a,b⟩:=yp.mp hs;obtain ⟨b1,b2⟩:=(yT _ _).mp b;exact yp.mpr ⟨yk b2,b1⟩)
 rw [e1];clear e1 hn hin
 induction ss with
 | nil=>rfl
 | cons x r ih =>
  rw [yU,yU,yU];cases p x<;>cases decide (x∈rs)<;>simp<;>omega
theorem qbm:∀ {qs:List (Str×Str)},(∀ q∈qs,q.1≠q.2)->qs.Pairwise (fun q r=>q.1≠r.1/\q.1≠r.2/\q.2≠r.1/\q.2≠r.2)->(qu qs).Nodup
 | [],_,_=>kL
 | q::r,h,hp=>by
  obtain ⟨p1,p2⟩:=List.pairwise_cons.mp hp;have ih:=qbm (fun x hx=>h x (yA _ hx)) p2;show (q.1::q.2::qu r).Nodup
  have out:∀ n∈qu r,q.1≠n/\q.2≠n:=fun n hn=>by
   obtain ⟨x,hx,hxn⟩:=xF.mp hn;obtain ⟨a,b,c,d⟩:=p1 x hx;simp only [yx,y0,YU] at hxn;rcases hxn with rfl | rfl
   ·exact ⟨a,c⟩
   ·exact ⟨b,d⟩
  refine yo.mpr ⟨fun z=>?_,yo.mpr ⟨fun z=>(out _ z).2 rfl,ih⟩⟩;rcases yx.mp z with z | z
  ·exact h q yL z
  ·exact (out _ z).1 rfl
theorem stpB_adj:(a,b)∈qdQ rs↔adjR rs a b:=by
 unfold qdQ adjR;rw [yz,Yd];constructor
 ·rintro (h | ⟨q,h,e⟩)
  ·obtain ⟨j,hj⟩:=yf h;exact ⟨j,.inl (stp_at.mp hj)⟩
  ·obtain ⟨j,hj⟩:=yf h;cases e;exact ⟨j,.inr (stp_at.mp hj)⟩
 ·rintro ⟨j,⟨h1,h2⟩ | ⟨h1,h2⟩⟩
  ·exact .inl (ye (stp_at.mpr ⟨h1,h2⟩))
  ·exact .inr ⟨(b,a),ye (stp_at.mpr ⟨h1,h2⟩),rfl⟩
theorem flT_flip {dps:List (Str×Str)} (h:TurnR (pt qs) rs):(a,b)∈flT dps qs rs↔(a,b)∈dps/\flipR (pt qs) rs a b:=by
 unfold flT;rw [yp,h.xor];refine and_congr_right fun _=>?_;show (decide (pt qs a=some b) != decide ((a,b)∈qdQ rs))=true↔_;by_cases h1:pt qs a=some b<;>by_cases h2:(a,b)∈qdQ rs
 ·rw [yI h1,yI h2];exact ⟨(fun z=>by cases z),fun z=>absurd ⟨fun _=>stpB_adj.mp h2,fun _=>h1⟩ z⟩
 ·rw [yI h1,yl h2];exact ⟨fun _ z=>h2 (stpB_adj.mpr (z.mp h1)),fun _=>rfl⟩
 ·rw [yl h1,yI h2];exact ⟨fun _ z=>h1 (z.mpr (stpB_adj.mp h2)),fun _=>rfl⟩
 ·rw [yl h1,yl h2];exact ⟨(fun z=>by cases z),fun z=>absurd ⟨fun y=>absurd y h1,fun y=>absurd (stpB_adj.mpr y) h2⟩ z⟩
noncomputable def tA (tps:List (Str×Str)) (a b:Str):Prop:=(a,b)∈tps\/(b,a)∈tps
theorem pt_some:s∈qu qs↔(pt qs s).isSome=true:=by
 cases e:pt qs s with
 | none=>exact ⟨fun z=>absurd z (pt_none.mp e),(fun z=>by cases z)⟩
 | some b=>exact ⟨fun _=>rfl,fun _=>Yz fun z=>by rw [pt_none.mpr z] at e;cases e⟩
structure PFn (ss:List Str) (tps:List (Str×Str)) (f:Str->Option Str):Prop where
 sym:∀ a b,f a=some b->f b=some a
 tie:∀ a b,f a=some b->tA tps a b
noncomputable def qaC (f:Str->Option Str) (ss:List Str):Nat:=(ss.filter fun s=>(f s).isSome).length
section
variable {ss:List Str} {ns:List Nat} {tps qs:List (Str×Str)} {f g:Str->Option Str}
theorem PGo.fn (h:PGo ss tps qs):PFn ss tps (pt qs):=⟨fun a b e=>(qdM h.nd).mp e,fun a b e=>by
 rcases qc4 e with z | z
 ·exact (h.inn _ z).1
 ·exact (h.inn _ z).1.symm⟩
theorem PGo.cnt (h:PGo ss tps qs) (hn:ss.Nodup):2 * qs.length=qaC (pt qs) ss:=by
 rw [<- zY];refine xM (qc3 h.nd fun s hs=>yp.mpr ⟨?_,pt_some.mp hs⟩) (qc3 (hn.filter _) fun s hs=>pt_some.mpr (yp.mp hs).2);obtain ⟨q,hq,hs⟩:=xF.mp hs;simp only [yx,y0,YU] at hs;rcases hs with rfl | rfl
 ·exact (h.inn q hq).2.1
 ·exact (h.inn q hq).2.2.1
theorem qbn:(snL f ss).length + qaC f ss=ss.length:=by
 unfold snL qaC
 induction ss with
 | nil=>rfl
 | cons x r ih =>
  rw [yU,yU];cases (f x).isSome
  ·rw [yE (show (!false)=true from rfl),yy Yj,yC,yC];omega
  ·rw [yy (show ¬ (!true)=true by decide),yE (show true=true from rfl),yC,yC];omega
theorem qcB (hw:WOk ss ns) (hA:Adj ss ns tps):(a,b)∈qK ss ns ss.length↔tA tps a b/\∃ i j:Nat,i < j/\ss[i]?=some a/\ss[j]?=some b:=by
 unfold qK;rw [xF];constructor
 ·rintro ⟨i,hi,h⟩;have hi:=YI.mp hi;obtain ⟨s,hs⟩:∃ s,ss[i]?=some s:=⟨_,yb hi⟩;have hg:ss.getD i ""=s:=by rw [YE,hs];rfl
  unfold qeO at h;rw [hg] at h;obtain ⟨o,ho,e⟩:=Yd.mp h;cases e;obtain ⟨h1,h2⟩:=yp.mp ho;obtain ⟨h3,h4⟩:=qdJ hw.nd h1;have gb:ss[ss.idxOf b]?=some b:=by rw [yb (Yv h3),YM]
  exact ⟨(hA i _ _ _ hs gb).mp h4,i,_,yk h2,hs,gb⟩
 ·rintro ⟨h,i,j,hij,h1,h2⟩;refine ⟨i,YI.mpr (yc.mp h1).1,?_⟩;have hg:ss.getD i ""=a:=by rw [YE,h1];rfl
  have ej:ss.idxOf b=j:=by
   have hb:=ye h2;exact qw hw.nd (by rw [yb (Yv hb),YM]) h2
  unfold qeO;rw [hg];refine Yd.mpr ⟨b,yp.mpr ⟨?_,yI (by rw [ej];exact hij)⟩,rfl⟩;rw [zK hw.nd];exact yp.mpr ⟨ye h2,by rw [ej];exact (hA i j a b h1 h2).mpr h⟩
theorem dps_nd (hw:WOk ss ns):(qK ss ns ss.length).Nodup:=by
 refine List.pairwise_flatMap.mpr ⟨fun i _=>?_,?_⟩
 ·unfold qeO;refine kg.mpr ?_;have nd:((inB ss 0 (ns.getD i 0)).filter fun o=>decide (i < ss.idxOf o)).Nodup:=by rw [zK hw.nd];exact (hw.nd.filter _).filter _
  exact nd.imp fun hab e=>hab (Prod.mk.inj e).2
 ·refine xq (fun {i j} hi hj hij q hq r hr e=>?_) (List.pairwise_lt_range (n:=ss.length));have hi:=YI.mp hi;have hj:=YI.mp hj;unfold qeO at hq hr;obtain ⟨_,_,rfl⟩:=Yd.mp hq;obtain ⟨_,_,rfl⟩:=Yd.mp hr;have e:=(Prod.mk.inj e).1;rw [YE,YE,yb hi,yb hj] at e;have:=qw hw.nd (yb hi) (by rw [yb hj];exact congrArg some e.symm);omega
theorem qex (hw:WOk ss ns) (hA:Adj ss ns tps) (hT:∀ ab∈tps,ab.1∈ss/\ab.2∈ss/\ab.1≠ab.2) (h:PFn ss tps g) {L:List (Str×Str)} (hL:∀ a b,(a,b)∈L↔(a,b)∈qK ss ns ss.length/\g a=some b) (hS:L.Sublist (qK ss ns ss.length)):PGo ss tps L/\pt L=g:=by
 have mem:∀ q∈L,g q.1=some q.2/\tA tps q.1 q.2/\∃ i j:Nat,i < j/\ss[i]?=some q.1/\ss[j]?=some q.2:=fun q hq=>by
  obtain ⟨h1,h2⟩:=(hL q.1 q.2).mp hq;exact ⟨h2,(qcB hw hA).mp h1⟩
 have inn:∀ {a b:Str},tA tps a b->a∈ss/\b∈ss/\a≠b:=fun z=>z.elim (fun y=>hT _ y) fun y=>⟨(hT _ y).2.1,(hT _ y).1,(hT _ y).2.2.symm⟩
 have nd:(qu L).Nodup:=by
  refine qbm (fun q hq=>(inn (mem q hq).2.1).2.2) (xq (fun {q r} hq hr hne=>?_) (hS.nodup (dps_nd hw)));obtain ⟨g1,_,i,j,l1,a1,a2⟩:=mem q hq;obtain ⟨g2,_,i',j',l2,b1,b2⟩:=mem r hr;have s1:=h.sym _ _ g1;have s2:=h.sym _ _ g2;refine ⟨fun z=>?_,fun z=>?_,fun z=>?_,fun z=>?_⟩
  ·rw [z,g2] at g1;exact hne (xy z (ym g1).symm)
  ·rw [z,s2] at g1;have e:=ym g1;rw [z] at a1;rw [<- e] at a2;have:=qw hw.nd a1 b2;have:=qw hw.nd a2 b1;omega
  ·rw [z,g2] at s1;have e:=ym s1;rw [z] at a2;rw [<- e] at a1;have:=qw hw.nd a1 b2;have:=qw hw.nd a2 b1;omega
  ·rw [z,s2] at s1;exact hne (xy (ym s1).symm z)
 have pg:∀ q∈L,(q∈tps\/(q.2,q.1)∈tps)/\q.1∈ss/\q.2∈ss/\q.1≠q.2:=fun q hq=>⟨(mem q hq).2.1,inn (mem q hq).2.1⟩
 have hl:L.length<=30:=by
  have:=qc3 (l:=qu L) (m:=ss) nd fun s hs=>by
   obtain ⟨q,hq,hs⟩:=xF.mp hs;simp only [yx,y0,YU] at hs;rcases hs with rfl | rfl
   ·exact (pg q hq).2.1
   ·exact (pg q hq).2.2.1
  rw [zY] at this;have:=hw.few;omega
 refine ⟨⟨pg,nd,hl⟩,funext fun a=>qdN fun b=>?_⟩;rw [qdL nd];constructor
 ·rintro (z | z)
  ·exact ((hL _ _).mp z).2
  ·exact h.sym _ _ ((hL _ _).mp z).2
 ·intro e;obtain ⟨m1,m2,ne⟩:=inn (h.tie _ _ e);obtain ⟨i,hi⟩:=yf m1;obtain ⟨j,hj⟩:=yf m2;rcases Nat.lt_trichotomy i j with l | l | l
  ·exact .inl ((hL _ _).mpr ⟨(qcB hw hA).mpr ⟨h.tie _ _ e,i,j,l,hi,hj⟩,e⟩)
  ·subst l;rw [hi] at hj;exact absurd (ym hj) ne
  ·exact .inr ((hL _ _).mpr ⟨(qcB hw hA).mpr ⟨(h.tie _ _ e).symm,j,i,l,hj,hi⟩,h.sym _ _ e⟩)
theorem tps_ok (hw:WOk ss ns) (hA:Adj ss ns tps) (hT:∀ ab∈tps,ab.1∈ss/\ab.2∈ss/\ab.1≠ab.2) (h:PGo ss tps qs):PGo ss tps (qa6 (qK ss ns ss.length) qs)/\pt (qa6 (qK ss ns ss.length) qs)=pt qs:=
 qex hw hA hT h.fn (fun a b=>by unfold qa6;rw [yp,yY]) List.filter_sublist
end
theorem qdS {f:Str->Option Str} (h:TurnR f rs):∃ g:Str->Option Str,∀ a b,g a=some b↔flipR f rs a b:=
 ⟨fun a=>@dite _ (∃ b,flipR f rs a b) (Classical.propDecidable _) (fun z=>some z.choose) fun _=>none,fun a b=>by
  dsimp only;split
  ·rename_i z
   exact ⟨fun e=>by rw [<- ym e];exact z.choose_spec,fun e=>congrArg some (z.choose_spec.one h e)⟩
  ·rename_i z
   exact ⟨(fun e=>by cases e),fun e=>absurd ⟨b,e⟩ z⟩⟩
section
variable {ss:List Str} {tps qs:List (Str×Str)} {f g:Str->Option Str} {rs:List Str}
theorem qdT (h:TurnR f rs) (hf:PFn ss tps f) (ha:∀ a b,adjR rs a b->tA tps a b) (hg:∀ a b,g a=some b↔flipR f rs a b):PFn ss tps g:=
 ⟨fun a b e=>(hg _ _).mpr (((hg _ _).mp e).symm h),fun a b e=>((hg _ _).mp e).elim (fun z=>hf.tie _ _ z.2) fun z=>ha _ _ z.1⟩
theorem qc7 (h:TurnR f rs) (hg:∀ a b,g a=some b↔flipR f rs a b) (hn:ss.Nodup) (hin:∀ s∈rs,s∈ss) (ha:rs[0]?=some a) (hb:rs[rs.length - 1]?=some b):qaC g ss + 2=qaC f ss + (if (f a).isSome then 0 else 2) + (if (f b).isSome then 0 else 2):=by
 have h2:=h.two;have ag:=h.again hg;unfold qaC;rw [qcd hn h.nd hin,qcd (p:=fun s=>(f s).isSome) hn h.nd hin];have r1:=qdR h ha hb;have r2:=qdR ag ha hb
 have eo:(ss.filter fun s=>(g s).isSome&&!decide (s∈rs))=ss.filter fun s=>(f s).isSome&&!decide (s∈rs):=kh fun s _=>by
  by_cases z:s∈rs
  ·rw [yI z];simp
  ·have:g s=f s:=qdN fun b=>by
    rw [hg];exact ⟨fun y=>y.elim (fun x=>x.2) fun x=>absurd x.1.mem.1 z,fun y=>.inl ⟨z,y⟩⟩
   rw [this]
 rw [eo];obtain ⟨t,ht⟩:∃ t,rs[1]?=some t:=⟨_,yb (by omega)⟩;obtain ⟨u,hu⟩:∃ u,rs[rs.length - 2]?=some u:=⟨_,yb (by omega)⟩;have e1:=qc6 h hg ⟨0,.inl ⟨ha,ht⟩⟩ (h.fst a t ha ht) (ag.fst a t ha ht);have e2:=qc6 h hg (a:=b) (t:=u) ⟨rs.length - 2,.inr ⟨hu,by rw [show rs.length - 2 + 1=rs.length - 1 by omega];exact hb⟩⟩ (h.lst b u hb hu) (ag.lst b u hb hu);rw [e1,e2] at r2;generalize (rs.filter fun s=>(g s).isSome).length=x1 at r2 ⊢;generalize (rs.filter fun s=>(f s).isSome).length=x2 at r1 ⊢;cases e3:(f a).isSome<;>cases e4:(f b).isSome<;>rw [e3,e4] at r1 r2<;>simp at r1 r2 ⊢<;>omega
theorem qbo (hs:∀ a b,f a=some b->f b=some a) (nd:rs.Nodup) (two:2<=rs.length) (st:Turns A f rs) (hd:∀ s,rs[0]?=some s->f s=none) (tl:∀ s t,rs[rs.length - 1]?=some s->rs[rs.length - 2]?=some t->f s=none\/f s=some t):TurnR f rs:=by
 refine ⟨nd,two,hs,fun j r s t hr h1 ht=>?_,fun s t h1 _=>.inl (hd s h1),tl⟩;have a1:=(st j r s hr h1).2;have a2:=(st (j + 1) s t h1 ht).2;have:f s=some r↔f r=some s:=⟨fun z=>hs _ _ z,fun z=>hs _ _ z⟩;rw [this,a1,a2];omega
theorem qce (st:Turns (tA tps) f rs):∀ a b,adjR rs a b->tA tps a b:=fun a b h=>by
 obtain ⟨j,⟨h1,h2⟩ | ⟨h1,h2⟩⟩:=h
 ·exact (st j _ _ h1 h2).1
 ·exact (st j _ _ h1 h2).1.symm
theorem Aug.row (h:Aug (tA tps) (pt qs) rs) (hl:rs.length<=1000) (hT:∀ ab∈tps,ab.1∈ss/\ab.2∈ss/\ab.1≠ab.2):RowG ss tps qs rs:=by
 refine ⟨h.nd,h.two,hl,fun r hr=>?_,fun j ab e=>?_,h.hd,h.tl⟩
 ·obtain ⟨i,hi⟩:=yf hr;have hil:=(yc.mp hi).1;have h2:=h.two;have inn:∀ {a b:Str},tA tps a b->a∈ss/\b∈ss:=fun z=>z.elim (fun y=>⟨(hT _ y).1,(hT _ y).2.1⟩) fun y=>⟨(hT _ y).2.1,(hT _ y).1⟩;by_cases h0:i + 1 < rs.length
  ·exact (inn (h.st i r _ hi (yb h0)).1).1
  ·refine (inn (h.st (i - 1) _ r (yb (by omega)) (by rw [show i - 1 + 1=i by omega];exact hi)).1).2
 ·obtain ⟨e1,e2⟩:=stp_at.mp e;obtain ⟨k1,k2⟩:=h.st j _ _ e1 e2;exact ⟨k1,Ys.mpr k2⟩
theorem Aug.turn (h:Aug (tA tps) (pt qs) rs) (hs:∀ a b,pt qs a=some b->pt qs b=some a):TurnR (pt qs) rs:=
 qbo hs h.nd h.two h.st h.hd fun s t e _=>.inl (h.tl s e)
theorem qdU (hw:WOk ss ns) (hA:Adj ss ns tps) (hT:∀ ab∈tps,ab.1∈ss/\ab.2∈ss/\ab.1≠ab.2) (hq:PGo ss tps qs) (h:Aug (tA tps) (pt qs) rs) (hl:rs.length<=1000):PGo ss tps (flT (qK ss ns ss.length) qs rs)/\(flT (qK ss ns ss.length) qs rs).length=qs.length + 1:=by
 have ht:=h.turn hq.fn.sym;obtain ⟨g,hg⟩:=qdS ht;obtain ⟨k1,k2⟩:=qex hw hA hT (qdT ht hq.fn (qce h.st) hg) (L:=flT (qK ss ns ss.length) qs rs) (fun a b=>by rw [flT_flip ht,hg]) List.filter_sublist;refine ⟨k1,?_⟩;have c1:=hq.cnt hw.nd;have c2:=k1.cnt hw.nd;rw [k2] at c2;have h2:=h.two;obtain ⟨a,ha⟩:∃ t,rs[0]?=some t:=⟨_,yb (by omega)⟩;obtain ⟨b,hb⟩:∃ t,rs[rs.length - 1]?=some t:=⟨_,yb (by omega)⟩;have:=qc7 ht hg hw.nd (h.row hl hT).inn ha hb;rw [h.hd a ha,h.tl b hb] at this;simp at this;omega
end
theorem kY:FnScope ["web","pairs","now","rows","row"] ["web","pairs"] (qh jA):=fS
noncomputable def MxF (ss:List Str) (tps qs:List (Str×Str)):Prop:=∃ S:FS,Fn (tA tps) (pt qs) S ss
structure Wt (cw:Addr) (H:Hp) (x:Addr) (ss:List Str) (ns:List Nat) (tps:List (Str×Str)):Prop where
 web:WebAt cw H x ss ns
 adj:Adj ss ns tps
 ok:∀ ab∈tps,ab.1∈ss/\ab.2∈ss/\ab.1≠ab.2
theorem Wt.same (h:Wt cw H x ss ns tps) (s:L2.Same H H'):Wt cw H' x ss ns tps:=⟨h.web.same s,h.adj,h.ok⟩
theorem Wt.wok (h:Wt cw H x ss ns tps):WOk ss ns:=by obtain ⟨_,_,_,_,_,_,_,_,z⟩:=h.web;exact z
theorem Wt.wb (h:Wt cw H x ss ns tps) (g:PGo ss tps qs):Wb (tA tps) ss qs:=by
 refine ⟨⟨fun z=>Or.symm z,fun z e=>?_,fun {a b} e=>g.fn.sym a b e,fun {a b} e=>g.fn.tie a b e⟩,fun a b z=>z.elim (fun y=>(h.ok _ y).1) fun y=>(h.ok _ y).2.1,g.nd,h.wok.few,h.wok.nd⟩;rcases z with z | z
 ·exact (h.ok _ z).2.2 e
 ·exact (h.ok _ z).2.2 e.symm
theorem Wt.bes (h:Wt cw H x ss ns tps):∀ (j:Nat) z u,ss[j]?=some z->(u∈inB ss 0 (ns.getD j 0)↔tA tps z u):=fun j z u e=>by
 rw [zK h.wok.nd,yp];constructor
 ·rintro ⟨h1,h2⟩;exact (h.adj j _ z u e (by rw [yb (Yv h1),YM])).mp h2
 ·intro t;have hu:u∈ss:=t.elim (fun y=>(h.ok _ y).2.1) fun y=>(h.ok _ y).1;exact ⟨hu,(h.adj j _ z u e (by rw [yb (Yv hu),YM])).mpr t⟩
theorem qfq {cf:Addr} {a:Fo} (h:FoD cf cw H0 H a ss ns qs S dn wt .non (tA tps)) (W:Wb (tA tps) ss qs):Fn (tA tps) (pt qs) S ss:=by
 rcases h.en with ⟨_,rfl,I,C,sg⟩ | ⟨t,r,e,_⟩
 ·have ev:∀ v,v∈dn↔S.rows v≠none:=fun v=>by have:=h.fo.evi v;rwa [Yr] at this
  refine ⟨I,W.gr,W.inn,W.nd,fun v u hv ha=>(C.cl v u ((ev v).mpr hv) ha).imp id fun z=>⟨z.1,Yz fun y=>z.2 ((ev u).mpr y)⟩,sg,fun v hv=>h.fo.evs v ((h.fo.evi v).mpr hv)⟩
 ·cases e
noncomputable def FRow (ss:List Str) (tps qs:List (Str×Str)) (H:Hp) (v:V) (H':Hp):Prop:=L2.Same H H'/\((v=.non/\MxF ss tps qs)\/∃ (r:Addr) (rs:List Str),v=.ref r/\H r=none/\H' r=some (.lst (rs.map V.str))/\rs.length<=1000/\Aug (tA tps) (pt qs) rs)
inductive spGf (cw:Addr) (vs:List V) (H:Hp) (Q:VK) (E:XK):Prop|mk (x l:Addr) (ss:List Str) (ns:List Nat) (us:List Addr) (tps qs:List (Str×Str)) (_:vs=[.ref x,.ref l]) (_:Wt cw H x ss ns tps) (_:PL H l us qs) (_:PGo ss tps qs) (_:∀ (t l2 r2:Addr) (ls:List Addr) (ws:List V) (rs:List (Str×Str)) (H':Hp),L2.Same H H'->H' t=some (.tup [.ref l2,.ref r2])->PL H' l2 ls rs->H' r2=some (.lst ws)->rs.length=qs.length + ws.length->PGo ss tps rs->MxF ss tps rs->Q (.ref t) H')
theorem qeT {y:Addr} {Q:VK} (W:Wt cw G x ss ns tps) (hP:PL G l us qs) (hG:PGo ss tps qs) (hy:G y=none) (hd:G dx=none) (hne:dx≠y)
  (h:∀ H0 H2 a S dn wt lo,a.x=y->FoD (cc 9) cw H0 H2 a ss ns qs S dn wt lo (tA tps)->L2.Same G H2->Q .non H2):spFi cc cw [.ref y,.ref x,.ref l] (upd (upd G dx (.own y)) y (.ins (cc 9) dx [])) Q E:=by
 have s2:=qL (qL (Sr G) (o:=.own y) hd) (o:=.ins (cc 9) dx []) (show upd G dx (.own y) y=none by rw [qe (Ye hne)];exact hy);refine ⟨y,dx,x,l,ss,ns,us,tps,qs,tA tps,rfl,qb,W.web.same s2,W.adj,W.wb hG,W.wok.nm,W.bes,hP.same s2,hG.few,hG.inn,fun H0 H' a S dn wt lo ea _ hD so=>h H0 H' a S dn wt lo ea hD fun c o e=>?_⟩;refine hD.fo.sm c o (so c o ?_);rw [zo (fun z=>by rw [z,hy] at e;cases e),qe (fun z=>by rw [z,hy] at e;cases e),qe (fun z=>by rw [z,hd] at e;cases e)];exact e
theorem qge {a:Fo} {Q:VK} (hD:FoD (cc 9) cw H0 H2 a ss ns qs S dn wt lo (tA tps)) (hW:Wb (tA tps) ss qs) (h:∀ v H',FRow ss tps qs H2 v H'->Q v H'):spFr cc cw [.ref a.x] H2 Q E:=by
 refine ⟨H0,a,ss,ns,qs,S,dn,wt,lo,_,rfl,hD,fun e=>?_,fun t r e et hA l hl=>?_⟩
 ·subst e;exact h _ _ ⟨L2.Same.refl _,.inl ⟨rfl,S,qfq hD hW⟩⟩
 ·refine h _ _ ⟨qL (Sr _) hl,.inr ⟨l,r,rfl,hl,qb,?_,hA⟩⟩;rcases hD.en with ⟨e',_⟩ | ⟨t',r',e',et',_,_,hl'⟩
  ·rw [e] at e';cases e'
  ·rw [e] at e';cases e';rw [et] at et';have:=congrArg List.length (show r.map V.str=r'.map V.str by injection (ym et'));rw [ya,ya] at this;omega
theorem ok_gf (F:Fun K "greatest_from" "greatest_from" jA f fd) (T:Txt K mg cc cw) (uh:DefOk P w K mg base CX0 10 "told_pairs" ["web","pairs"] (spTp cw)) (KK:MakeOk P w K mg base CX0 10 (cc 9) "Forest" ["self","web","pairs"] (spFi cc cw)) (KQ:MethOk P w K mg base CX0 1 (cc 9) "row" ["self"] (spFr cc cw)) (uL:DefOk P w K mg base CX0 12 "turned" ["web","pairs","row"] (spTu cw)):FnOk P w K mg base CX0 13 f fd ["web","pairs"] (spGf cw):=by
 refine F.ok kY fun _ _ _ _ H vs Q E hr h=>?_
 ·obtain ⟨x,l,ss,ns,us,tps,qs,rfl,W,hP,hG,q⟩:=h;have hu:=za hr;refine ⟨_,(qc (qo (i:=2) kY.nd rfl (yJ rfl) (qt uh (hmR hr) qF (qa (pv 0) (qa (pv 1) qd))))
 (qc (qo (i:=3) kY.nd rfl (yJ rfl) (je qd))
 (qc (qo (i:=4) kY.nd rfl (yJ rfl) (qZ KQ (hmR hr) (qan KK (hmR hr) (qa (pv 0) (qa (pv 2) qd)))))
 (qc (qbq yP (qp qco (pv 4) zS (qD _))
 (qc (qM (qbj (K:=K) rfl yN y8 y9 qO (pv 3) (qa (pv 4) qd)))
 (qc (qo (i:=2) kY.nd rfl (yJ rfl) (qt uL (hmR hr) qF (qa (pv 0) (qa (pv 2) (qa (pv 4) qd)))))
 (qf (qo (i:=4) kY.nd rfl (yJ rfl) (qZ KQ (hmR hr) (qan KK (hmR hr) (qa (pv 0) (qa (pv 2) qd)))))))))
 (qf (qm (ju (qa (pv 2) (qa (pv 3) qd))))))))),?_⟩
  ext;refine ⟨x,l,ss,ns,us,tps,qs,rfl,W.web,W.adj,hP,hG,fun l1 ls1 H1 s1 hl0 hl1 _ hA1=>?_⟩;ext;refine ⟨by decide,fun r2 hr2=>?_⟩;have s2:=qL (Sr H1) (o:=.lst []) hr2;have er2:upd H1 r2 (.lst []) r2=some (.lst []):=qb;have W2:=W.same (s1.trans s2);have t0:=tps_ok W.wok W.adj W.ok hG
  have hc0:(qa6 (qK ss ns ss.length) qs).length=qs.length + 0:=by
   have c1:=hG.cnt W.wok.nd;have c2:=t0.1.cnt W.wok.nd;rw [t0.2] at c2;omega
  have hP2:PL (upd H1 r2 (.lst [])) l1 ls1 (qa6 (qK ss ns ss.length) qs):=⟨s2 _ _ hl1,hA1.mono fun _ _ z=>s2 _ _ z.2.2⟩;have s02:=s1.trans s2;generalize upd H1 r2 (.lst [])=G at s02 er2 W2 hP2;generalize qa6 (qK ss ns ss.length) qs=ps at hP2 t0 hc0;replace t0:=t0.1;ext;refine fun y dx hy hdx hne=>qeT W2 hP2 t0 hy hdx hne fun H0 H3 a S dn wt lo ea hD s3=>?_;subst ea;obtain ⟨fx,ff,fx1,_,_,_,fx2⟩:=id hD.fo.obj;refine ⟨rfl,a.x,fx,ff,rfl,fx1,fx2 _ (by decide +kernel),?_⟩;ext;refine qge hD (W2.wb t0) fun v H4 hv=>?_;have s03:=s02.trans s3;have hr20:H r2=none:=s1.free hr2;have nl12:l1≠r2:=fun e=>by rw [e,hr2] at hl1;cases hl1
  ext;obtain ⟨Wv,hW0⟩:∃ Wv:Nat->L2.St->Hp->Prop,Wv=fun m σ J=>∃ (ln:Addr) (us:List Addr) (ps:List (Str×Str)) (ws:List V) (v:V),σ=[some (.ref x),some (.ref l),some (.ref ln),some (.ref r2),some v]/\L2.Same H J/\PL J ln us ps/\ln≠r2/\PGo ss tps ps/\J r2=some (.lst ws)/\ps.length=qs.length + ws.length/\m=8 - ps.length /\
   ((v=.non/\MxF ss tps ps)\/∃ (r:Addr) (rs:List Str),v=.ref r/\r≠r2/\J r=some (.lst (rs.map V.str))/\rs.length<=1000/\Aug (tA tps) (pt ps) rs):=⟨_,rfl⟩
  refine ⟨Wv,⟨_,by
   rw [hW0];refine ⟨l1,ls1,ps,[],v,rfl,s03.trans hv.1,hP2.same (s3.trans hv.1),nl12,t0,hv.1 _ _ (s3 _ _ er2),hc0,rfl,hv.2.imp id ?_⟩;rintro ⟨r,rs,e1,e2,e3,e4,e5⟩;exact ⟨r,rs,e1,(fun z=>by rw [z,s3 _ _ er2] at e2;cases e2),e3,e4,e5⟩⟩,fun m σ J hWv=>?_⟩
  rw [hW0] at hWv;obtain ⟨ln,us,ps,ws,v,rfl,sJ,hPJ,nln,gJ,er2,hc,hm,hv⟩:=hWv;ext
  have hfew:2 * ps.length<=14:=by
   have:=gJ.cnt W.wok.nd;have h2:qaC (pt ps) ss<=ss.length:=yW _ _;have:=W.wok.few;omega
  rcases hv with ⟨rfl,mx⟩ | ⟨r,rs,rfl,nr,er,hl,au⟩
  ·refine ⟨rfl,_,rfl,qU (fun h=>by simp at h) fun _=>?_⟩;ext;refine ⟨by show 2<=sizeLine;decide,fun t ht=>?_⟩;have s9:=qL (Sr J) (o:=.tup [.ref ln,.ref r2]) ht;exact q t ln r2 us ws ps _ (sJ.trans s9) qb (hPJ.same s9) (s9 _ _ er2) hc gJ mx
  ·refine ⟨rfl,_,rfl,qai ⟨fun σ' H'=>∃ m',m' < m/\Wv m' σ' H',fun _ _ z=>z,?_⟩⟩;ext;refine ⟨.inl ⟨rfl,_,SqL.of er2⟩,?_⟩;ext;refine ⟨r2,_,_,rfl,rfl,er2,qi (by omega),?_⟩;have sU:=qaa sJ (o:=.lst (ws++[.ref r])) hr20;have hPU:PL (upd J r2 (.lst (ws++[.ref r]))) ln us ps:=⟨by rw [qe nln];exact hPJ.1,hPJ.2.mono fun t ab z=>by rw [qe (zv z er2 (fun e=>by cases e))];exact z⟩;have erU:upd J r2 (.lst (ws++[.ref r])) r=some (.lst (rs.map V.str)):=by rw [qe nr];exact er
   have e2U:upd J r2 (.lst (ws++[.ref r])) r2=some (.lst (ws++[.ref r])):=qb;generalize upd J r2 (.lst (ws++[.ref r]))=G1 at sU hPU erU e2U ⊢;have WU:=W.same sU;ext;refine ⟨x,ln,r,ss,ns,us,tps,ps,rs,rfl,⟨WU.web,WU.adj,hPU,gJ,erU,au.row hl W.ok⟩,fun l3 ls3 H5 s5 hl30 hl3 _ hA3=>?_⟩;obtain ⟨g3,c3⟩:=qdU W.wok W.adj W.ok gJ au hl;generalize flT (qK ss ns ss.length) ps rs=p3 at hA3 g3 c3;have n3:l3≠r2:=fun e=>by rw [e,e2U] at hl30;cases hl30
   have hP3:PL H5 l3 ls3 p3:=⟨hl3,hA3.mono fun _ _ z=>z.2.2⟩;have s05:=sU.trans s5;have W5:=W.same s05;have e25:=s5 _ _ e2U;ext;refine fun y dx hy hdx hne=>qeT W5 hP3 g3 hy hdx hne fun H6 H7 b S5 dn5 wt5 lo5 eb hD5 s7=>?_;subst eb;obtain ⟨fy,fg,fy1,_,_,_,fy2⟩:=id hD5.fo.obj;refine ⟨rfl,b.x,fy,fg,rfl,fy1,fy2 _ (by decide +kernel),?_⟩;ext;refine qge hD5 (W5.wb g3) fun v H8 hv=>?_;ext;refine ⟨8 - p3.length,by omega,?_⟩;rw [hW0];refine ⟨l3,ls3,p3,ws++[.ref r],v,rfl,(s05.trans s7).trans hv.1,hP3.same (s7.trans hv.1),n3,g3,hv.1 _ _ (s7 _ _ e25),by rw [c3,hc,yt];rfl,rfl,hv.2.imp id ?_⟩;rintro ⟨r',rs',e1,e2,e3,e4,e5⟩;exact ⟨r',rs',e1,(fun z=>by rw [z,s7 _ _ e25] at e2;cases e2),e3,e4,e5⟩
theorem uo:FnScope ["web"] ["web"] (qh zN):=fS
inductive spGr (cw:Addr) (vs:List V) (H:Hp) (Q:VK) (E:XK):Prop|mk (x:Addr) (ss:List Str) (ns:List Nat) (tps:List (Str×Str)) (_:vs=[.ref x]) (_:Wt cw H x ss ns tps) (_:∀ (l:Addr) (ls:List Addr) (rs:List (Str×Str)) (H':Hp),L2.Same H H'->PL H' l ls rs->PGo ss tps rs->MxF ss tps rs->Q (.ref l) H')
theorem ok_gr (F:Fun K "greatest" "greatest" zN f fd) (T:Txt K mg cc cw) (K4:DefOk P w K mg base CX0 13 "greatest_from" ["web","pairs"] (spGf cw)):FnOk P w K mg base CX0 14 f fd ["web"] (spGr cw):=by
 refine F.ok uo fun _ _ _ _ H vs Q E hr h=>?_
 ·obtain ⟨x,ss,ns,tps,rfl,W,q⟩:=h;have hu:=za hr;refine ⟨_,(qf (qm (qx (qy (K:=K) rfl hu) (qt K4 (hmR hr) qF (qa (pv 0) (qa (je qd) qd))) qg (fun _ _=>rfl)))),?_⟩;ext;refine ⟨by decide,fun l hl=>?_⟩;have s1:=qL (Sr H) (o:=.lst []) hl;ext;refine ⟨x,l,ss,ns,[],tps,[],rfl,W.same s1,⟨qb,.nil⟩,⟨(fun q h=>by cases h),kL,by decide⟩,fun t l2 r2 ls ws rs H' s2 et hP _ _ hG hM=>?_⟩;exact .inl (qaY et (v:=.ref l2) (qA (j:=0) rfl) (q l2 ls rs H' (s1.trans s2) hP hG hM))
noncomputable def tB (tps:List (Str×Str)) (a b:Str):Bool:=decide ((a,b)∈tps)||decide ((b,a)∈tps)
theorem tB_iff:tB tps a b=true↔tA tps a b:=by
 unfold tB tA;rw [kJ,yY,yY]
noncomputable def del (l:List Str) (y:Str):List Str:=l.filter fun a=>!decide (a=y)
noncomputable def mo (tps:List (Str×Str)):Nat->List Str->Nat
 | 0,_=>0
 | _,[]=>0
 | n + 1,x::r=>(r.filter (tB tps x)).foldl (fun m y=>max m (1 + mo tps n (del r y))) (mo tps n r)
theorem qaK (h:α->Nat):∀ (L:List α) (i:Nat),i<=L.foldl (fun m y=>max m (h y)) i/\(∀ y∈L,h y<=L.foldl (fun m y=>max m (h y)) i)/\(L.foldl (fun m y=>max m (h y)) i=i\/∃ y∈L,L.foldl (fun m y=>max m (h y)) i=h y)
 | [],i=>⟨yh _,(fun y hy=>by cases hy),.inl rfl⟩
 | a::r,i=>by
  obtain ⟨h1,h2,h3⟩:=qaK h r (max i (h a));rw [List.foldl_cons];refine ⟨yi (Nat.le_max_left _ _) h1,fun y hy=>?_,?_⟩
  ·rcases yx.mp hy with rfl | hy
   ·exact yi (Nat.le_max_right _ _) h1
   ·exact h2 y hy
  ·rcases h3 with z | ⟨y,hy,z⟩
   ·rw [z];rcases kQ i (h a) with k | k
    ·exact .inr ⟨a,yL,kC k⟩
    ·exact .inl (kK k)
   ·exact .inr ⟨y,yA _ hy,z⟩
structure Mt (tps:List (Str×Str)) (l:List Str) (f:Str->Option Str):Prop where
 sym:∀ a b,f a=some b->f b=some a
 tie:∀ a b,f a=some b->tA tps a b
 inn:∀ a b,f a=some b->a∈l
theorem zO {f:Str->Option Str} {x:Str}:qaC f (x::r)=qaC f r + (if (f x).isSome=true then 1 else 0):=by
 unfold qaC;rw [yU];split
 ·rw [yC]
 ·rfl
theorem qa7 {f:Str->Option Str} {l:List Str} (h:∀ s∈l,(f s).isSome=(g s).isSome):qaC f l=qaC g l:=by
 unfold qaC;rw [kh h]
theorem mem_del {l:List Str}:a∈del l y↔a∈l/\a≠y:=by
 unfold del;rw [yp,xV,Xj]
theorem zq {f:Str->Option Str}:∀ {r:List Str},r.Nodup->y∈r->qaC f r=qaC f (del r y) + (if (f y).isSome=true then 1 else 0)
 | [],_,h=>by cases h
 | x::r,hn,h=>by
  obtain ⟨n1,n2⟩:=yo.mp hn;by_cases e:x=y
  ·subst e
   have:del (x::r) x=r:=by
    unfold del;rw [yU,yy (by rw [yI rfl];decide)];exact XW.mpr fun a ha=>by rw [yl (fun z=>n1 (by rw [<- z];exact ha))];rfl
   rw [this,zO]
  ·have hy:=(yx.mp h).resolve_left (Ye e);have:del (x::r) y=x::del r y:=by unfold del;rw [yU,yE (by rw [yl e];rfl)]
   rw [this,zO,zO,zq n2 hy];omega
theorem qa8 (l:List Str) (y:Str):(del l y).length<=l.length:=yW _ _
section
variable {tps:List (Str×Str)}
theorem qbc (hi:∀ a b,tA tps a b->a≠b):∀ (n:Nat) {l:List Str} {f:Str->Option Str},l.length<=n->l.Nodup->Mt tps l f->qaC f l<=2 * mo tps n l
 | n,[],f,_,_,_=>YC _
 | 0,x::r,f,h,_,_=>by simp at h
 | n + 1,x::r,f,h,hn,hf=>by
  obtain ⟨n1,n2⟩:=yo.mp hn;have hl:r.length<=n:=by simpa using h
  obtain ⟨k1,k2,_⟩:=qaK (fun y=>1 + mo tps n (del r y)) (r.filter (tB tps x)) (mo tps n r);rw [zO];show _<=2 * (r.filter (tB tps x)).foldl (fun m y=>max m (1 + mo tps n (del r y))) (mo tps n r)
  cases e:f x with
  | none =>
   have:=qbc hi n hl n2 (f:=f) ⟨hf.sym,hf.tie,fun a b z=>(yx.mp (hf.inn a b z)).resolve_left fun y=>by rw [y,e] at z;cases z⟩;simp only [X5,YA,xx];omega
  | some y =>
   have hxy:=hi _ _ (hf.tie _ _ e);have ey:=hf.sym _ _ e;have hy:=(yx.mp (hf.inn y x ey)).resolve_left (Ye hxy);have ho:=k2 y (yp.mpr ⟨hy,tB_iff.mpr (hf.tie _ _ e)⟩);have:=qbc hi n (l:=del r y) (f:=fun a=>if a=x\/a=y then none else f a) (yi (qa8 r y) hl) (n2.filter _) ⟨fun a b z=>?_,fun a b z=>?_,fun a b z=>?_⟩
   ·rw [zq n2 hy,ey,qa7 (g:=fun a=>if a=x\/a=y then none else f a) fun s hs=>?_]
    ·simp only [Xh,Xm]
     (try dsimp only at ho)
     omega
    ·obtain ⟨h1,h2⟩:=mem_del.mp hs;rw [yy (fun z=>z.elim (fun z=>n1 (by rw [<- z];exact h1)) h2)]
   ·(try dsimp only at z ⊢)
    split at z
    ·cases z
    ·rename_i hne
     have zs:=hf.sym _ _ z;rw [yy (fun w=>?_)]
     ·exact zs
     ·rcases w with w | w
      ·rw [w,e] at zs;exact hne (.inr (ym zs).symm)
      ·rw [w,ey] at zs;exact hne (.inl (ym zs).symm)
   ·(try dsimp only at z)
    split at z
    ·cases z
    ·exact hf.tie _ _ z
   ·(try dsimp only at z)
    split at z
    ·cases z
    ·rename_i hne
     have:=(yx.mp (hf.inn a b z)).resolve_left fun w=>hne (.inl w);exact mem_del.mpr ⟨this,fun w=>hne (.inr w)⟩
theorem qbC (hi:∀ a b,tA tps a b->a≠b):∀ (n:Nat) {l:List Str},l.length<=n->l.Nodup->∃ f,Mt tps l f/\qaC f l=2 * mo tps n l
 | n,[],_,_=>⟨fun _=>none,⟨(fun a b z=>by cases z),(fun a b z=>by cases z),(fun a b z=>by cases z)⟩,by cases n<;>rfl⟩
 | 0,x::r,h,_=>by simp at h
 | n + 1,x::r,h,hn=>by
  obtain ⟨n1,n2⟩:=yo.mp hn;have hl:r.length<=n:=by simpa using h
  obtain ⟨_,_,k3⟩:=qaK (fun y=>1 + mo tps n (del r y)) (r.filter (tB tps x)) (mo tps n r);show ∃ f,_/\_=2 * (r.filter (tB tps x)).foldl (fun m y=>max m (1 + mo tps n (del r y))) (mo tps n r);rcases k3 with z | ⟨y,hy,z⟩
  ·obtain ⟨f,hf,c⟩:=qbC hi n hl n2;refine ⟨f,⟨hf.sym,hf.tie,fun a b e=>yA _ (hf.inn a b e)⟩,?_⟩
   have hx:f x=none:=by
    cases e:f x with
    | none=>rfl
    | some b=>exact absurd (hf.inn _ _ e) n1
   rw [zO,hx,z,c];rfl
  ·obtain ⟨hy,ty⟩:=yp.mp hy;have ty:=tB_iff.mp ty;have hxy:=hi _ _ ty;obtain ⟨f,hf,c⟩:=qbC hi n (l:=del r y) (yi (qa8 r y) hl) (n2.filter _)
   have out:∀ {a b:Str},f a=some b->a≠x/\a≠y:=fun e=>by
    obtain ⟨h1,h2⟩:=mem_del.mp (hf.inn _ _ e);exact ⟨fun w=>n1 (by rw [<- w];exact h1),h2⟩
   refine ⟨fun a=>if a=x then some y else if a=y then some x else f a,⟨fun a b e=>?_,fun a b e=>?_,fun a b e=>?_⟩,?_⟩
   ·(try dsimp only at e ⊢)
    split at e
    ·cases e;rename_i w;rw [yy (Ye hxy),yE rfl,w]
    ·split at e
     ·cases e;rename_i w;rw [yE rfl,w]
     ·have es:=hf.sym _ _ e;obtain ⟨o1,o2⟩:=out es;rw [yy o1,yy o2];exact es
   ·(try dsimp only at e)
    split at e
    ·cases e;rename_i w;rw [w];exact ty
    ·split at e
     ·cases e;rename_i w;rw [w];exact Or.symm ty
     ·exact hf.tie _ _ e
   ·(try dsimp only at e)
    split at e
    ·rename_i w;rw [w];exact yL
    ·split at e
     ·rename_i w;rw [w];exact yA _ hy
     ·exact yA _ (mem_del.mp (hf.inn _ _ e)).1
   ·rw [zO,zq n2 hy,yE rfl,yy (Ye hxy),yE rfl,qa7 (g:=f) fun s hs=>?_]
    ·simp only [Xh,Xm];rw [c,z];omega
    ·obtain ⟨h1,h2⟩:=mem_del.mp hs;rw [yy (fun w=>n1 (by rw [<- w];exact h1)),yy h2]
theorem mo_eq (hi:∀ a b,tA tps a b->a≠b) {l:List Str} (h1:l.length<=n) (h2:l.length<=m) (hn:l.Nodup):mo tps n l=mo tps m l:=by
 obtain ⟨f,hf,c⟩:=qbC hi n h1 hn;obtain ⟨g,hg,d⟩:=qbC hi m h2 hn;have:=qbc hi m h2 hn hf;have:=qbc hi n h1 hn hg;omega
variable {ss:List Str} {qs:List (Str×Str)} {S:FS}
theorem Mt.gr {f:Str->Option Str} (hi:∀ a b,tA tps a b->a≠b) (h:Mt tps ss f):Gr (tA tps) f:=⟨fun z=>Or.symm z,fun z=>hi _ _ z,fun {a b} e=>h.sym a b e,fun {a b} e=>h.tie a b e⟩
theorem PGo.mt (g:PGo ss tps qs):Mt tps ss (pt qs):=⟨g.fn.sym,g.fn.tie,fun a b e=>by
 rcases qc4 e with z | z
 ·exact (g.inn _ z).2.1
 ·exact (g.inn _ z).2.2.1⟩
theorem mx_mo (hi:∀ a b,tA tps a b->a≠b) (hn:ss.Nodup) (g:PGo ss tps qs) (m:MxF ss tps qs):qs.length=mo tps ss.length ss:=by
 obtain ⟨S,F⟩:=m;have c:=g.cnt hn;have:=qbc hi _ (yh _) hn g.mt;obtain ⟨f,hf,d⟩:=qbC hi _ (yh _) hn;have k:=F.most (hf.gr hi)
 have k2:(ss.filter fun u=>!(f u).isSome&&(S.rows u).isSome).length<=(snL f ss).length:=qc3 (hn.filter _) fun u hu=>by
  obtain ⟨h1,h2⟩:=yp.mp hu;exact yp.mpr ⟨h1,((yT _ _).mp h2).1⟩
 have e1:=qbn (f:=f) (ss:=ss);have e2:=qbn (f:=pt qs) (ss:=ss);omega
theorem qcf (hi:∀ a b,tA tps a b->a≠b) (hn:ss.Nodup) (hv:v∈ss):mo tps (del ss v).length (del ss v)<=mo tps ss.length ss/\mo tps ss.length ss<=mo tps (del ss v).length (del ss v) + 1:=by
 constructor
 ·obtain ⟨f,hf,c⟩:=qbC hi _ (yh _) (hn.filter (fun a=>!decide (a=v)))
  have hfv:f v=none:=by
   cases e:f v with
   | none=>rfl
   | some b=>exact absurd rfl (mem_del.mp (hf.inn _ _ e)).2
  have:=qbc hi _ (yh _) hn (f:=f) ⟨hf.sym,hf.tie,fun a b e=>(mem_del.mp (hf.inn a b e)).1⟩;rw [zq hn hv,hfv] at this;simp only [X5,YA,xx] at this;have c':qaC f (del ss v)=2 * mo tps (del ss v).length (del ss v):=c;omega
 ·obtain ⟨f,hf,c⟩:=qbC hi _ (yh _) hn;have hnd:(del ss v).Nodup:=hn.filter _;rw [zq hn hv] at c
  cases e:f v with
  | none =>
   have:=qbc hi _ (yh _) hnd (f:=f) ⟨hf.sym,hf.tie,fun a b z=>mem_del.mpr ⟨hf.inn a b z,fun w=>by rw [w,e] at z;cases z⟩⟩;rw [e] at c;simp at c;omega
  | some y =>
   have ey:=hf.sym _ _ e;have hvy:=hi _ _ (hf.tie _ _ e);have hy:y∈del ss v:=mem_del.mpr ⟨hf.inn _ _ ey,Ye hvy⟩;have:=qbc hi _ (yh _) hnd (f:=fun a=>if a=v\/a=y then none else f a) ⟨fun a b z=>?_,fun a b z=>?_,fun a b z=>?_⟩
   ·rw [zq hnd hy,yE (show y=v\/y=y from .inr rfl)] at this;rw [zq hnd hy,e,ey,qa7 (g:=fun a=>if a=v\/a=y then none else f a) fun s hs=>?_] at c
    ·simp at c this;omega
    ·obtain ⟨h1,h2⟩:=mem_del.mp hs;rw [yy (fun z=>z.elim (fun z=>(mem_del.mp h1).2 z) h2)]
   ·(try dsimp only at z ⊢)
    split at z
    ·cases z
    ·rename_i hne
     have zs:=hf.sym _ _ z;rw [yy (fun w=>?_)]
     ·exact zs
     ·rcases w with w | w
      ·rw [w,e] at zs;exact hne (.inr (ym zs).symm)
      ·rw [w,ey] at zs;exact hne (.inl (ym zs).symm)
   ·(try dsimp only at z)
    split at z
    ·cases z
    ·exact hf.tie _ _ z
   ·(try dsimp only at z)
    split at z
    ·cases z
    ·rename_i hne
     exact mem_del.mpr ⟨hf.inn a b z,fun w=>hne (.inl w)⟩
theorem mx_loose (hi:∀ a b,tA tps a b->a≠b) (hn:ss.Nodup) (g:PGo ss tps qs) (F:Fn (tA tps) (pt qs) S ss) (hv:v∈ss):mo tps (del ss v).length (del ss v)=mo tps ss.length ss↔S.rows v≠none:=by
 have cm:=mx_mo hi hn g ⟨S,F⟩;have c:=g.cnt hn;have hnd:(del ss v).Nodup:=hn.filter _;constructor
 ·intro e hv0;obtain ⟨f,hf,d⟩:=qbC hi _ (yh _) hnd
  have hfv:f v=none:=by
   cases e:f v with
   | none=>rfl
   | some b=>exact absurd rfl (mem_del.mp (hf.inn _ _ e)).2
  have hm:Mt tps ss f:=⟨hf.sym,hf.tie,fun a b e=>(mem_del.mp (hf.inn a b e)).1⟩;have k:=F.most (hm.gr hi);have cd:qaC f ss=qaC f (del ss v):=by rw [zq hn hv,hfv];rfl
  have e1:=qbn (f:=f) (ss:=ss);have e2:=qbn (f:=pt qs) (ss:=ss);have hvs:v∈snL f ss:=mem_sn.mpr ⟨hv,hfv⟩
  have k2:(ss.filter fun u=>!(f u).isSome&&(S.rows u).isSome).length<=((snL f ss).erase v).length:=qc3 (hn.filter _) fun u hu=>by
   obtain ⟨h1,h2⟩:=yp.mp hu;obtain ⟨h3,h4⟩:=(yT _ _).mp h2;exact (XA (fun z=>by rw [z,hv0] at h4;cases h4)).mpr (yp.mpr ⟨h1,h3⟩)
  rw [YX hvs] at k2;have:=Y6 hvs;omega
 ·intro hr;obtain ⟨r,hr⟩:=some_of hr;have al:=F.fi.alt v r hr;refine xM (qcf hi hn hv).1 ?_
  suffices h:∃ f,Mt tps ss f/\f v=none/\qaC f ss=qaC (pt qs) ss by
   obtain ⟨f,hf,fv,cf⟩:=h;have:=qbc hi _ (yh _) hnd (f:=f) ⟨hf.sym,hf.tie,fun a b e=>mem_del.mpr ⟨hf.inn a b e,fun w=>by rw [w,fv] at e;cases e⟩⟩;rw [zq hn hv,fv] at cf;simp only [X5,YA,xx] at cf;omega
  obtain ⟨r0,er⟩:=al.tl;have hlast:r[r.length - 1]?=some v:=by rw [er,yt];simp
  have ho:=al.odd;by_cases h1:r.length=1
  ·rw [h1] at hlast;exact ⟨pt qs,g.mt,al.hd v hlast,rfl⟩
  ·have h2:2<=r.length:=by omega
   have lst:∀ s t,r[r.length - 1]?=some s->r[r.length - 2]?=some t->pt qs s=some t:=fun s t hs ht=>by
    have:=(al.st (r.length - 2) t s ht (by rw [show r.length - 2 + 1=r.length - 1 by omega];exact hs)).2.mpr (by omega);exact g.fn.sym _ _ this
   have T:=qbo g.fn.sym al.nd h2 al.st al.hd fun s t hs ht=>.inr (lst s t hs ht);obtain ⟨f,hf⟩:=qdS T;have hfn:=qdT (ss:=ss) T g.fn (qce al.st) hf;have inn:∀ {a b:Str},tA tps a b->a∈ss:=fun z=>F.inn _ _ z
   have hin:∀ s∈r,s∈ss:=fun s hs=>by
    obtain ⟨i,hi'⟩:=yf hs;have hil:=(yc.mp hi').1;by_cases h0:i + 1 < r.length
    ·exact inn (al.st i s _ hi' (yb h0)).1
    ·rw [show i=r.length - 1 by omega,hlast] at hi';rw [<- ym hi'];exact hv
   obtain ⟨u,hu⟩:∃ u,r[r.length - 2]?=some u:=⟨_,yb (by omega)⟩;obtain ⟨a,ha⟩:∃ a,r[0]?=some a:=⟨_,yb (by omega)⟩
   have fv:f v=none:=by
    cases e:f v with
    | none=>rfl
    | some b =>
     rcases (hf v b).mp e with ⟨z,_⟩ | ⟨z1,z2⟩
     ·exact absurd (ye hlast) z
     ·rcases z1.at_ al.nd hlast with w | ⟨_,w⟩
      ·have:=(yc.mp w).1;omega
      ·rw [show r.length - 1 - 1=r.length - 2 by omega] at w;exact absurd (lst v b hlast w) z2
   refine ⟨f,⟨hfn.sym,hfn.tie,fun a b e=>inn (hfn.tie a b e)⟩,fv,?_⟩;have:=qc7 T hf hn hin ha hlast;rw [al.hd a ha,lst v u hlast hu] at this;simp at this;exact this
end
theorem uE:FnScope ["_law_script","_law_k"] ["_law_script","_law_k"] (qh qaL):=fS
theorem uz:FnScope ["_law_cell_here"] ["_law_cell_here"] (qh qas):=fS
theorem Kx:FnScope ["_law_state","_law_many","_law_digit","_law_number"] ["_law_state","_law_many"] (qh qaM):=fS
theorem Ka:FnScope ["_law_state","_law_many","_law_letters","_law_at","_law_head","_law_first","_law_found","_law_k","_law_tail"] ["_law_state","_law_many"] (qh zf):=fS
inductive spCeQ (K:W.Frag) (vs:List V) (H:Hp) (Q:VK) (E:XK):Prop|mk (a:Addr) (ns:List Int) (k:Int) (_:vs=[.ref a,.int k]) (_:SqL K H a (ns.map V.int)) (_:0<=k) (_:k < 1000) (_:∀ i:Int,Q (.int i) H)
inductive spBgQ (vs:List V) (H:Hp) (Q:VK) (E:XK):Prop|mk (i:Int) (_:vs=[.int i]) (_:∀ (p:Addr) (a b c:Int),H p=none->Q (.ref p) (upd H p (.lst [.int a,.int b,.int c])))
inductive spNmQ (vs:List V) (H:Hp) (Q:VK) (E:XK):Prop|mk (p:Addr) (m:Nat) (_:vs=[.ref p,.int (m:Int)]) (_:Box H p) (_:m<=7) (_:∀ (l:Addr) (ss:List Str) (H':Hp),BB p H H'->H l=none->NL p H' l ss->NOk ss->ss.length=m->Q (.ref l) H')
theorem ok_tkQ (F:Fun K "_law_take" "_law_take" qaM f fd):FnOk P w K mg base CX0 1 f fd ["_law_state","_law_many"] spTake:=by
 refine F.ok Kx fun _ _ _ _ H vs Q E hr h=>?_
 ·obtain ⟨p,m,rfl,⟨a,b,c,hp⟩,h0,h1,k⟩:=h;have hu:=za hr;refine ⟨_,(qc (qP (qp qdb (qx (qy (K:=K) rfl hu) (pv 0) qg (fun _ _=>rfl)) qg (qD _)) (qc (qo (i:=2) Kx.nd rfl (yJ rfl) (qC zT (qx (qy (K:=K) rfl hu) (pv 0) qg (fun _ _=>rfl)) (pv 1)))
 (qc (jG (qC qcn (qx (qy (K:=K) rfl hu) (pv 0) qg (fun _ _=>rfl)) (pv 1)) (jL (pv 0) qg (jM hu)))
 (qf (qm (pv 2))))) qv)
 (qc (jG (qC (zc (K:=K) rfl) (qx (qy (K:=K) rfl hu) (pv 0) qg (fun _ _=>rfl)) qg) (jL (pv 0) qg (jM hu)))
 (qc (qo (i:=3) Kx.nd rfl (yJ rfl) (qC zT (qC (zc (K:=K) rfl) (qC (zc (K:=K) rfl) (qC qbs (qx (qy (K:=K) rfl hu) (pv 0) qg (fun _ _=>rfl)) qg) (qC qbs qg (qx (qy (K:=K) rfl hu) (pv 0) qg (fun _ _=>rfl)))) qg) qg))
 (qc (qo (i:=3) Kx.nd rfl (yJ rfl) (qC zT (qC qbs (pv 3) (pv 3)) qg))
 (qc (qo (i:=3) Kx.nd rfl (yJ rfl) (qC zT (qC qbs (qC (zc (K:=K) rfl) (pv 3) (qC qbs qg (qx (qy (K:=K) rfl hu) (pv 0) qg (fun _ _=>rfl)))) qg) qg))
 (qf (qm (qC zT (qC qcn (qC zT (qC qbs (pv 3) (pv 3)) qg) qg) (pv 1))))))))),?_⟩
  ext;refine .inl (zR hp rfl ?_);ext;refine qU (fun hc=>?_) (fun hc=>?_)
  ·ext;refine .inl (zR hp rfl ?_);ext;refine vI h0 ?_;ext;refine .inl (zR hp rfl ?_);ext;refine vI ⟨h0,h1⟩ ?_;ext;refine .inl (qd9 hp rfl ?_);ext;exact k _ _ (xn _ (by omega)) (xk _ h0) ⟨fun x o n e=>by rw [qe n];exact e,_,_,_,qb⟩
  ·ext;refine .inl (zR hp rfl ?_);ext;refine .inl (qd9 hp rfl ?_);ext;refine .inl (zR qb rfl ?_);ext;refine qbt (.inr (by decide)) ?_;ext;refine .inl (zR qb rfl ?_);ext;refine qbt (.inl (by decide)) ?_;ext;refine vI (by decide) ?_;ext;have e1:=xn (b * 48271 + 7919 * (c + 1) + 11) (show (2147483647:Int)≠0 by decide);have e2:=xk (b * 48271 + 7919 * (c + 1) + 11) (show (0:Int) < 2147483647 by decide);refine qbt (.inl ⟨by omega,by omega⟩) ?_;ext;refine vI (by decide) ?_;ext;refine .inl (zR qb rfl ?_);ext;refine qbt (.inl (by decide)) ?_;ext;refine qbt (.inr (by decide)) ?_;ext;refine vI (by decide) ?_;ext;generalize ((b * 48271 + 7919 * (c + 1) + 11) % 2147483647 * ((b * 48271 + 7919 * (c + 1) + 11) % 2147483647) % 2147483629 + 31 * (c + 1)) * 69621=z;have e3:=xn z (show (2147483587:Int)≠0 by decide);have e4:=xk z (show (0:Int) < 2147483587 by decide);refine qbt (.inl ⟨by omega,by omega⟩) ?_;ext;refine vI (by decide) ?_;ext;refine vI ⟨by decide,by decide⟩ ?_;ext;refine vI h0 ?_;exact k _ _ (xn _ (by omega)) (xk _ h0) ⟨fun x o n e=>by rw [qe n];exact e,_,_,_,qb⟩
theorem ok_ceQ (F:Fun K "_law_cell" "_law_cell" qaL f fd) (T:Txt K mg cc cw):FnOk P w K mg base CX0 1 f fd ["_law_script","_law_k"] (spCeQ K):=by
 refine F.ok uE fun _ _ _ _ H vs Q E hr h=>?_
 ·obtain ⟨a,ns,k,rfl,hS,h0,h1,q⟩:=h;have hu:=za hr;refine ⟨_,(qc (qP (qp qdj (pv 1) (qk (zr (K:=K) rfl) rfl T.b_len Y0 (qa (pv 0) qd)) (qD _)) (qf (qm (qx (qy (K:=K) rfl hu) (pv 0) (pv 1) (fun _ _=>rfl)))) qv)
 (qf (qm (qC (zc (K:=K) rfl) (qC qbs qg (pv 1)) qg)))),?_⟩
  ext;refine zU hS ?_;ext;refine qU (fun hc=>?_) (fun hc=>?_)
  ·ext;have hc':k < (ns.map V.int).length:=yk hc;obtain ⟨v,e1,e2⟩:=atI_lt h0 hc';rw [yd] at e2
   cases e3:ns[k.toNat]? with
   | none=>rw [e3] at e2;cases e2
   | some i =>
    rw [e3] at e2;cases e2;exact .inl (vIxLs hS e1 (q i))
  ·ext;refine qbt (.inl (by decide)) ?_;ext;exact q _
theorem ok_bgQ (F:Fun K "_law_begun" "_law_begun" qas f fd) (T:Txt K mg cc cw):FnOk P w K mg base CX0 1 f fd ["_law_cell_here"] spBgQ:=by
 refine F.ok uz fun _ _ _ _ H vs Q E hr h=>?_
 ·obtain ⟨c,rfl,q⟩:=h;refine ⟨_,(qf (qm (je (qa (qk (qac rfl) rfl T.b_max boot_max (qa qg (qa (qC qay (pv 0) (qC op_pow qg qg)) qd))) (qa (qC zT (pv 0) qg) (qa qg qd)))))),?_⟩;ext;refine vI ⟨by decide,by decide,by decide⟩ ?_;ext;refine ⟨_,_,rfl,?_⟩;ext;refine vI (by decide) ?_;ext;exact ⟨by show 3<=sizeLine;decide,fun p hp=>q p _ _ _ hp⟩
theorem five_inj {sh a b:Int} (ha:0<=a) (hb:0<=b) (ha':a < 26) (hb':b < 26) (e:(sh + 5 * a) % 26=(sh + 5 * b) % 26):a=b:=by omega
theorem qcC {i:Int} {Q:VK} (h0:0<=i) (h1:i < 26) (k:Q (.str ⟨#[97 + i.toNat]⟩) H):qfx K (.str L26) (.int i) H Q:=.inl (vIxS (by decide +kernel) (L26_at h0 h1) k)
theorem qdV {zs:List Str} (hn:zs.length=n) (h1:∀ x∈zs,x.length=1/\x.cps.toList.all sg=true):(Txt.join "" zs).cps.toList.length=n/\(Txt.join "" zs).cps.toList.all sg=true:=by
 constructor
 ·have:(Txt.join "" zs).length=n:=by rw [join_len fun x hx=>(h1 x hx).1];exact hn
  rw [<- this];simp [Str.length]
 ·have e:Txt.join "" zs=Str.join "" zs:=Ym.mp (join_plain_closes "" zs);rw [e];exact qc1 fun x hx=>(h1 x hx).2
theorem ok_nmQ (F:Fun K "_law_names" "_law_names" zf f fd) (T:Txt K mg cc cw) (kS:DefOk P w K mg base CX0 1 "_law_take" ["_law_state","_law_many"] spTake):FnOk P w K mg base CX0 2 f fd ["_law_state","_law_many"] spNmQ:=by
 refine F.ok Ka fun _ _ _ s H vs Q E hr h=>?_
 ·obtain ⟨p,m,rfl,hB,m7,q⟩:=h;have hu:=za hr;refine ⟨_,(qc (qo (i:=2) Ka.nd rfl (X2 rfl) qbI)
 (qc (qo (i:=3) Ka.nd rfl (yJ rfl) (qt kS (hmR hr) qF (qa (pv 0) (qa qg qd))))
 (qc (qo (i:=4) Ka.nd rfl (yJ rfl) (qbj (K:=K) rfl PySem.F.plainAttrs_str PySem.F.slot_str_join PySem.F.type_str_join (qem (K:=K) rfl) qbI (qa (jw (sc:=qh zf) (XN:=["_law_state","_law_many","_law_letters","_law_at","_law_head","_law_first","_law_found","_law_k","_law_tail"]) ["_law_k","_law_letters","_law_state"] 1 [2,0] rfl rfl rfl (by decide +kernel) rfl (by decide +kernel)
  (qQ rfl T.b_range (qa (pv 3) qd)) (fun _ _ _ _=>(qr (i:=0) (show (["_law_k","_law_letters","_law_state"]:List Str).Nodup by decide +kernel) rfl (yJ rfl))) ji
  (fun _ _ _ _=>jN)
  (fun _ _ _ _=>(qx (qy (K:=K) rfl hu) (pv 1) (qt kS (hmR hr) qF (qa (pv 2) (qa qg qd))) (fun _ _=>rfl)))) qd)))
 (qc (qo (i:=5) Ka.nd rfl (yJ rfl) (qt kS (hmR hr) qF (qa (pv 0) (qa qg qd))))
 (qc (qo (i:=6) Ka.nd rfl (yJ rfl) (je qd))
 (qc (q9 yP rfl (qQ rfl T.b_range (qa (pv 1) qd)) (qr (i:=7) Ka.nd rfl (yJ rfl))
 (qc (qo (i:=8) Ka.nd rfl (yJ rfl) (qbj (K:=K) rfl PySem.F.plainAttrs_str PySem.F.slot_str_join PySem.F.type_str_join (qem (K:=K) rfl) qbI (qa (jw (sc:=qh zf) (XN:=["_law_state","_law_many","_law_letters","_law_at","_law_head","_law_first","_law_found","_law_k","_law_tail"]) ["_law_j","_law_letters","_law_state"] 1 [2,0] rfl rfl rfl (by decide +kernel) rfl (by decide +kernel)
  (qQ rfl T.b_range (qa (qt kS (hmR hr) qF (qa (pv 0) (qa (qC qay qg (pv 3)) qd))) qd)) (fun _ _ _ _=>(qr (i:=0) (show (["_law_j","_law_letters","_law_state"]:List Str).Nodup by decide +kernel) rfl (yJ rfl))) ji
  (fun _ _ _ _=>jN)
  (fun _ _ _ _=>(qx (qy (K:=K) rfl hu) (pv 1) (qt kS (hmR hr) qF (qa (pv 2) (qa qg qd))) (fun _ _=>rfl)))) qd)))
 (qf (qM (qbj (K:=K) rfl yN y8 y9 qO (pv 6) (qa (qC (zc (K:=K) rfl) (qC (zc (K:=K) rfl) (pv 4) (qx (qy (K:=K) rfl hu) (pv 2) (qC zT (qC (zc (K:=K) rfl) (pv 5) (qC qbs qg (pv 7))) qg) (fun _ _=>rfl))) (pv 8)) qd))))))
 (qf (qm (pv 6))))))))),?_⟩
  ext;refine ⟨p,4,rfl,hB,by decide,by decide,fun at_ H1 w0 w1 b1=>?_⟩;obtain ⟨ah,rfl⟩:=YN w0;ext;refine ⟨rfl,?_⟩;ext;refine ⟨_,rfl,by omega,by omega,jT (lo:=0) (n:=((ah:Int)).toNat) (Signs p H1) (Signs.start b1.2) (fun i ys H' hi hs=>?_) fun ys H5 hs=>?_⟩
  ·ext;refine qai ?_;ext;refine ⟨p,26,rfl,hs.1.2,by decide,by decide,fun r H2' r0 r1 hb=>?_⟩;refine qcC r0 r1 ?_;exact ⟨by rw [hs.len];exact qi (by omega),hs.more hb (qeP (by omega) (by omega))⟩
  ·refine ⟨by rw [hs.len];exact yZ (qi (by omega)),fun l5 h5=>?_⟩;obtain ⟨hb5,zs,rfl,hn,h1⟩:=hs;have b2:=(b1.trans hb5).new (o:=.lst (zs.map V.str)) h5;ext;refine ⟨_,l5,zs,rfl,rfl,SqL.of qb,by rw [qc2 fun x hx=>(h1 x hx).1,show ("":Str).length=0 by decide +kernel];exact yZ (qi (by omega)),?_⟩;obtain ⟨lS,aS⟩:=qdV hn h1;rw [Yb] at lS;generalize Txt.join "" zs=stem at lS aS ⊢;have lstem:stem.length=ah:=by rw [<- lS];simp [Str.length]
   generalize upd H5 l5 (.lst (zs.map V.str))=H6 at b2 ⊢;ext;refine ⟨p,26,rfl,b2.2,by decide,by decide,fun first H7 f0 f1 b3=>?_⟩;have b7:=b2.trans b3;ext;refine ⟨by decide,fun l hl=>?_⟩;have b8:=b7.new (o:=.lst []) hl;have nl:=b7.apart hl;have hl0:=b7.free hl;ext;refine ⟨_,rfl,by omega,by omega,jl (fun i σ H'=>BB p H H'/\∃ (ss:List Str) (x9 x10:Option V),σ=[some (.ref p),some (.int (m:Int)),some (.str L26),some (.int (ah:Int)),some (.str stem),some (.int first),some (.ref l),x9,x10]/\H' l=some (.lst (ss.map V.str))/\ss.length=i/\∀ (j:Nat) s,ss[j]?=some s->zu s=true/\s.cps.toList[ah]?=some (97 + ((first + 5 * (j:Int)) % 26).toNat))
     ⟨b8,[],none,none,rfl,qb,rfl,by simp⟩ (fun i σ H8 hi hp=>?_) fun σ H8 hp=>?_⟩
   ·obtain ⟨b9,ss,x9,x10,rfl,hss,hsl',hk⟩:=hp;ext;refine ⟨rfl,?_⟩;ext;refine ⟨p,_,rfl,b9.2,by omega,by omega,fun r H9 r0 r1 b10=>?_⟩;obtain ⟨r,rfl⟩:=YN r0;have hss9:=b10.1 _ _ nl hss;have bb:=b9.trans b10;refine ⟨_,rfl,by omega,by omega,jT (lo:=0) (n:=((r:Int)).toNat) (Signs p H9) (Signs.start bb.2) (fun i ys H' hi hs=>?_) fun ys H10 hs=>?_⟩
    ·ext;refine qai ?_;ext;refine ⟨p,26,rfl,hs.1.2,by decide,by decide,fun r H2' r0 r1 hb=>?_⟩;refine qcC r0 r1 ?_;exact ⟨by rw [hs.len];exact qi (by omega),hs.more hb (qeP (by omega) (by omega))⟩
    ·refine ⟨by rw [hs.len];exact yZ (qi (by omega)),fun l6 h6=>?_⟩;obtain ⟨hb6,zt,rfl,hnt,h1t⟩:=hs;have hss10:=hb6.1 _ _ nl hss9;have bc:=(bb.trans hb6).new (o:=.lst (zt.map V.str)) h6;have hss11:upd H10 l6 (.lst (zt.map V.str)) l=some (.lst (ss.map V.str)):=by rw [qe (qj hss10 h6)];exact hss10
     ext;refine ⟨_,l6,zt,rfl,rfl,SqL.of qb,by rw [qc2 fun x hx=>(h1t x hx).1,show ("":Str).length=0 by decide +kernel];exact yZ (qi (by omega)),?_⟩;obtain ⟨lT,aT⟩:=qdV hnt h1t;rw [Yb] at lT;generalize Txt.join "" zt=tl at lT aT ⊢;have ltl:tl.length=r:=by rw [<- lT];simp [Str.length]
     generalize upd H10 l6 (.lst (zt.map V.str))=H11 at bc hss11 ⊢;ext;refine ⟨.inl ⟨rfl,_,SqL.of hss11⟩,?_⟩;ext;refine qbt (.inl ⟨by decide,by decide⟩) ?_;ext;refine vI (by decide) ?_;ext;rw [xL];refine qcC (xn _ (by decide)) (xk _ (by decide)) ?_;refine qff (by rw [lstem];show _ + 1<=_;exact yZ (qi (by omega))) ?_;have eNm:(stem++(⟨#[97 + ((first + 5 * (i:Int)) % 26).toNat]⟩:Str)).cps.toList=stem.cps.toList++[97 + ((first + 5 * (i:Int)) % 26).toNat]:=by rw [qaH]
     have lNm:(stem++(⟨#[97 + ((first + 5 * (i:Int)) % 26).toNat]⟩:Str)).length=ah + 1:=by
      have:(stem++(⟨#[97 + ((first + 5 * (i:Int)) % 26).toNat]⟩:Str)).length=(stem++(⟨#[97 + ((first + 5 * (i:Int)) % 26).toNat]⟩:Str)).cps.toList.length:=by simp [Str.length]
      rw [this,eNm,yt,lS];rfl
     generalize stem++(⟨#[97 + ((first + 5 * (i:Int)) % 26).toNat]⟩:Str)=nm at eNm lNm ⊢;ext;refine qff (by rw [lNm,ltl];exact yZ (qi (by omega))) ?_;refine ⟨l,_,_,rfl,rfl,hss11,by rw [ya,hsl'];exact qi (by omega),?_⟩;refine ⟨bc.put hl0 nl,ss++[_],_,_,rfl,by rw [qb,yG];rfl,by rw [yt,hsl'];rfl,fun j s hj=>?_⟩;by_cases hlt:j < ss.length
     ·rw [yS hlt] at hj;exact hk j s hj
     ·rw [yD (by omega)] at hj;have h0:j - ss.length=0:=by have:=(yc.mp hj).1;simp at this;omega
      rw [h0] at hj;cases hj;have hji:j=i:=by omega
      subst hji;have eF:(nm++tl).cps.toList=stem.cps.toList++[97 + ((first + 5 * (j:Int)) % 26).toNat]++tl.cps.toList:=by rw [qaH,eNm]
      have lt26:=xk (first + 5 * (j:Int)) (show (0:Int) < 26 by decide);refine ⟨nameS_of eF (by simp;omega) (by simp [lS,lT];omega) ?_,?_⟩
      ·rw [XJ,XJ,aS,aT,Xy,qeP (by omega) (by omega)];rfl
      ·rw [eF,Yc,yD (by omega),lS,Xr];rfl
   ·obtain ⟨b9,ss,x9,x10,rfl,hss,hsl',hk⟩:=hp;ext;rw [Yb] at hsl';refine q l ss _ b9 hl0 ⟨hss,nl⟩ ⟨by omega,nodup_key fun i j s hi hj=>?_,fun s hs=>?_⟩ hsl'
    ·have ei:=(hk i s hi).2;have ej:=(hk j s hj).2;have li:=(yc.mp hi).1;have lj:=(yc.mp hj).1;rw [ei,Option.some.injEq] at ej
     have e4:(i:Int)=(j:Int):=five_inj (sh:=first) (by omega) (by omega) (by omega) (by omega) (by
      have p1:=xn (first + 5 * (i:Int)) (show (26:Int)≠0 by decide);have p2:=xn (first + 5 * (j:Int)) (show (26:Int)≠0 by decide);omega)
     omega
    ·obtain ⟨j,hj,e⟩:=xv hs;exact (hk j s (by rw [yb hj,e])).1
theorem Ke:FnScope ["_law_state","_law_size","_law_way","_law_found","_law_k","_law_sparse","_law_one","_law_other"] ["_law_state","_law_size"] (qh zg):=fS
theorem qdW {X:L2.Cx} {st:List PySem.Stmt} {t:L2.TS} (t':L2.TS) (h:L2.PSs X st t) (k:∀ D σ H,t' D σ H->t D σ H):L2.PSs X st t':=fun pins s σ H D I q=>h pins s σ H D I (k D σ H q)
noncomputable abbrev iV (k:Nat):V:=.int (k:Int)
theorem qaN (a b:Int):(if false=true then !eqV (V.int a) (V.int b) else eqV (V.int a) (V.int b))=decide (a=b):=by
 rw [yy (by decide)];unfold eqV;by_cases h:a=b<;>simp [h]
theorem qa9 {i j:Int} {Q:VK} (q:Q (.bl (decide (i=j))) H):qfy K (.int i) (.int j) H Q:=.inl (.inl (.inl ⟨rfl,rfl,by rw [qaN];exact q⟩))
noncomputable abbrev iT (q:Nat×Nat):HO:=.tup [.int (q.1:Int),.int (q.2:Int)]
noncomputable def IPL (H:Hp) (l:Addr) (ts:List Addr) (TI:List (Nat×Nat)):Prop:=H l=some (.lst (ts.map V.ref))/\All2 (fun t q=>H t=some (iT q)) ts TI
theorem IPL.same {TI:List (Nat×Nat)} (h:IPL H l ts TI) (s:L2.Same H H'):IPL H' l ts TI:=⟨s _ _ h.1,h.2.mono fun _ _ z=>s _ _ z⟩
theorem qfr {ta:TA} {R:It->Hp->Prop} (h:ta σ H fun vs H1=>∃ i j:Int,vs=[.int i,.int j]/\(-(2 ^ 62)<=i/\i < 2 ^ 62/\-(2 ^ 62)<=j/\j < 2 ^ 62)/\R (Itr i (j - i).toNat) H1):qe6 ta σ H R:=h
theorem qcg (h:some (iT q')=some (iT q)):q'=q:=by
 injection h with h
 injection h with h
 injection h with h1 h2
 injection h1 with h1
 injection h2 with h2 _
 injection h2 with h2
 exact xy (by omega) (by omega)
theorem qch {a b:Addr} (hb:H b=some (iT q')) (ha:H a=some (iT q)):EqD K H 1 (.ref b) (.ref a) (decide (q'=q)):=by
 by_cases e:b=a
 ·subst e;rw [hb] at ha;have:q'=q:=qcg ha;rw [yI this];exact .self
 ·have z:=EqT.tup (K:=K) (H:=H) (n:=0) (e:=fun j=>if j=0 then eqV (iV q'.1) (iV q.1) else eqV (iV q'.2) (iV q.2)) (SqT.of hb) (SqT.of ha) fun j x y hx hy=>by
   match j,hx,hy with
   | 0,hx,hy=>cases hx;cases hy;exact .flat rfl rfl
   | 1,hx,hy=>cases hx;cases hy;exact .flat rfl rfl
   | n + 2,hx,hy=>simp at hx
  have ee:((List.range (min [iV q'.1,iV q'.2].length [iV q.1,iV q.2].length)).all (fun j=>if j=0 then eqV (iV q'.1) (iV q.1) else eqV (iV q'.2) (iV q.2))&&[iV q'.1,iV q'.2].length==[iV q.1,iV q.2].length)=decide (q'=q):=by
   have e1:eqV (iV q'.1) (iV q.1)=decide (q'.1=q.1):=by
    have:=qaN (q'.1:Int) (q.1:Int);rw [yy (by decide)] at this;rw [this];exact Ys.mpr (by omega)
   have e2:eqV (iV q'.2) (iV q.2)=decide (q'.2=q.2):=by
    have:=qaN (q'.2:Int) (q.2:Int);rw [yy (by decide)] at this;rw [this];exact Ys.mpr (by omega)
   show ((if (0:Nat)=0 then eqV (iV q'.1) (iV q.1) else eqV (iV q'.2) (iV q.2))&&((if (1:Nat)=0 then eqV (iV q'.1) (iV q.1) else eqV (iV q'.2) (iV q.2))&&true)&&true)=_;rw [yE rfl,yy (by decide),e1,e2,kN,kN];rw [Yq,yT,yY,yY,yY];exact ⟨fun h=>xy h.1 h.2,fun h=>by rw [h];exact ⟨rfl,rfl⟩⟩
  rw [ee] at z;exact .deep z e
theorem ipl_nin {a:Addr} {TI:List (Nat×Nat)} {Q:VK} (h:IPL H l ts TI) (ha:H a=some (iT q0)) (q:Q (.bl (!decide (q0∈TI))) H):qd2 K true (.ref a) (.ref l) H Q:=by
 classical
 refine .inr (.inr ⟨l,ts.map V.ref,fun z=>decide (∃ t,z=.ref t/\H t=some (iT q0)),1,rfl,SqL.of h.1,by decide,fun z hz=>?_,?_⟩)
 ·obtain ⟨b,hb,rfl⟩:=Yd.mp hz;obtain ⟨q',_,r⟩:=h.2.mem hb;have e:=qch (K:=K) r ha
  have ee:decide (∃ t,V.ref b=.ref t/\H t=some (iT q0))=decide (q'=q0):=by
   apply Ys.mpr;constructor
   ·rintro ⟨t,e1,e2⟩;cases e1;rw [r] at e2;exact qcg e2
   ·rintro rfl;exact ⟨b,rfl,r⟩
  show EqD K H 1 (.ref b) (.ref a) (decide (∃ t,V.ref b=.ref t/\H t=some (iT q0)));rw [ee];exact e
 ·have e:((ts.map V.ref).any fun z=>decide (∃ t,z=.ref t/\H t=some (iT q0)))=decide (q0∈TI):=by
   rw [Yq,Yn,yY];constructor
   ·rintro ⟨z,hz,e⟩;obtain ⟨t,ht,rfl⟩:=Yd.mp hz;obtain ⟨q',hq',r⟩:=h.2.mem ht;obtain ⟨t',e1,e2⟩:=yk e;cases e1;rw [r] at e2;have:q'=q0:=qcg e2;rw [<- this];exact hq'
   ·intro hm;obtain ⟨k,hk,e⟩:=xv hm;have hk':k < ts.length:=by rw [h.2.len];exact hk
    have r:=h.2.at_ k ts[k] TI[k] (yb hk') (yb hk);exact ⟨.ref ts[k],Yd.mpr ⟨_,YO hk',rfl⟩,yI ⟨ts[k],rfl,by rw [r,e]⟩⟩
  rw [yE rfl,e];exact q
noncomputable def TJ (m:Nat) (TI:List (Nat×Nat)):Prop:=TI.length<=30/\(∀ q∈TI,q.1 < q.2/\q.2 < m)/\TI.Nodup
theorem All2.cons {R:α->β->Prop} {l:List α} {m:List β} {x:α} {y:β} (r:R x y) (h:All2 R l m):All2 R (x::l) (y::m):=
 ⟨by rw [yC,yC,h.len],fun k a b ha hb=>by
  cases k with
  | zero=>simp at ha hb;subst ha;subst hb;exact r
  | succ k=>exact h.at_ k a b (by simpa using ha) (by simpa using hb)⟩
theorem BB.tup {t:Addr} (b:BB p H H') (hp:Box H p) (h:H t=some (.tup xs)):H' t=some (.tup xs):=b.1 _ _ (fun e=>by obtain ⟨x,y,z,e2⟩:=hp;rw [e,e2] at h;cases h) h
theorem IPL.bb {TI:List (Nat×Nat)} (h:IPL H l ts TI) (hp:Box H p) (b:BB p H H') (hl:l≠p):IPL H' l ts TI:=⟨b.1 _ _ hl h.1,h.2.mono fun t q z=>b.tup hp z⟩
theorem IPL.snoc {t:Addr} {TI:List (Nat×Nat)} (h:IPL H l ts TI) (ht:H t=some (iT q)):IPL (upd H l (.lst ((ts++[t]).map V.ref))) l (ts++[t]) (TI++[q]):=by
 have key:∀ {u:Addr} {r:Nat×Nat},H u=some (iT r)->upd H l (.lst ((ts++[t]).map V.ref)) u=some (iT r):=fun {u r} e=>by rw [qe (fun z=>by rw [z,h.1] at e;cases e)];exact e
 exact ⟨qb,(h.2.mono fun _ _ z=>key z).snoc (key ht)⟩
theorem IPL.lenV {TI:List (Nat×Nat)} (h:IPL H l ts TI):(ts.map V.ref).length=TI.length:=by rw [ya,h.2.len]
structure Fnd (p:Addr) (H J:Hp) (l:Addr) (ts:List Addr) (TI:List (Nat×Nat)):Prop where
 bb:BB p H J
 old:H l=none
 np:l≠p
 li:IPL J l ts TI
theorem Fnd.on {TI:List (Nat×Nat)} (h:Fnd p H J l ts TI) (b:BB p J J'):Fnd p H J' l ts TI:=⟨h.bb.trans b,h.old,h.np,h.li.bb h.bb.2 b h.np⟩
theorem Fnd.app {t:Addr} {TI:List (Nat×Nat)} (h:Fnd p H J l ts TI) (ht:J t=some (iT q)):Fnd p H (upd J l (.lst (ts.map V.ref++[.ref t]))) l (ts++[t]) (TI++[q]):=by
 have e:ts.map V.ref++[.ref t]=(ts++[t]).map V.ref:=by rw [yG];rfl
 rw [e];exact ⟨h.bb.put h.old h.np,h.old,h.np,h.li.snoc ht⟩
theorem TJ.snoc {TI:List (Nat×Nat)} (h:TJ m TI) (hl:TI.length < 30) (hq:q.1 < q.2/\q.2 < m) (hn:q∉TI):TJ m (TI++[q]):=by
 refine ⟨by rw [yt];simp;omega,fun r hr=>?_,?_⟩
 ·rcases yz.mp hr with z | z
  ·exact h.2.1 r z
  ·rw [yB.mp z];exact hq
 ·exact yX.mpr ⟨h.2.2,by simp,fun a ha b hb e=>hn (by rw [yB.mp hb] at e;rw [<- e];exact ha)⟩
inductive spShQ (vs:List V) (H:Hp) (Q:VK) (E:XK):Prop|mk (p:Addr) (m:Nat) (_:vs=[.ref p,.int (m:Int)]) (_:Box H p) (_:m<=7) (_:∀ (l:Addr) (ts:List Addr) (TI:List (Nat×Nat)) (H':Hp),Fnd p H H' l ts TI->TJ m TI->Q (.ref l) H')
noncomputable def chT (n:Nat):List (Nat×Nat):=(List.range n).map fun k=>(k,k + 1)
theorem qax (n:Nat):(chT n).length=n:=by unfold chT;rw [ya,Yo]
theorem qcD (h:q∈chT n):q.1 < n/\q.2=q.1 + 1:=by
 obtain ⟨k,hk,rfl⟩:=Yd.mp h;exact ⟨YI.mp hk,rfl⟩
theorem qey (n:Nat):(chT n).Nodup:=List.Pairwise.map _ (fun a b h e=>h (congrArg Prod.fst e)) List.nodup_range
theorem qc8 (n:Nat):chT (n + 1)=chT n++[(n,n + 1)]:=by unfold chT;rw [Xe,yG];rfl
theorem qez {a b:Addr} {Q:VK} (ea:G a=some (.lst xs)) (eb:G b=some (.lst ys)) (hl:xs.length + ys.length<=2000) (q:∀ p,G p=none->Q (.ref p) (upd G p (.lst (xs++ys)))):qcs K (.ref a) (.ref b) G Q:=.inl ⟨a,b,_,_,rfl,rfl,ea,eb,yi hl (by decide),q⟩
theorem ok_shQ (F:Fun K "_law_shape" "_law_shape" zg f fd) (T:Txt K mg cc cw) (kS:DefOk P w K mg base CX0 1 "_law_take" ["_law_state","_law_many"] spTake):FnOk P w K mg base CX0 2 f fd ["_law_state","_law_size"] spShQ:=by
 refine F.ok Ke fun _ _ _ _ H vs Q E hr h=>?_
 ·obtain ⟨p,m,rfl,hB,m7,q⟩:=h;have hu:=za hr;obtain ⟨TC3,hTC3⟩:∃ t0:TS,t0=fun D σ J=>(∃ way:Int,σ=[some (.ref p),some (.int (m:Int)),some (.int way),none,none,none,none,none])/\BB p H J/\∀ (l:Addr) (ts:List Addr) (TI:List (Nat×Nat)) (H':Hp),Fnd p H H' l ts TI->TJ m TI->D.rt (.ref l) H':=⟨_,rfl⟩;refine ⟨_,(qc (qo (i:=2) Ke.nd rfl (yJ rfl) (qt kS (hmR hr) qF (qa (pv 0) (qa qg qd))))
 (qc (qP (qp (zX (K:=K) rfl hu) (pv 2) qg (qD _)) (qf (qm (jw (sc:=qh zg) (XN:=["_law_state","_law_size","_law_way","_law_found","_law_k","_law_sparse","_law_one","_law_other"]) ["_law_k"] 1 [] rfl rfl rfl (by decide +kernel) rfl (by decide +kernel)
  (qQ rfl T.b_range (qa (qC qay (pv 1) qg) qd)) (fun _ _ _ _=>(qr (i:=0) (show (["_law_k"]:List Str).Nodup by decide +kernel) rfl (yJ rfl))) ji
  (fun _ _ _ _=>jN)
  (fun _ _ _ _=>(ju (qa (pv 0) (qa (qC (zc (K:=K) rfl) (pv 0) qg) qd))))))) qv)
 (qc (qP (PW.pt (qbd (qp (zX (K:=K) rfl hu) (pv 2) qg (qD _)) (qaP (qp qdb (pv 1) qg (qD _))))) (qf (qm (qC (zc (K:=K) rfl) (je (qa (ju (qa qg (qa (qC qay (pv 1) qg) qd))) qd)) (jw (sc:=qh zg) (XN:=["_law_state","_law_size","_law_way","_law_found","_law_k","_law_sparse","_law_one","_law_other"]) ["_law_k"] 1 [] rfl rfl rfl (by decide +kernel) rfl (by decide +kernel)
  (qQ rfl T.b_range (qa (qC qay (pv 1) qg) qd)) (fun _ _ _ _=>(qr (i:=0) (show (["_law_k"]:List Str).Nodup by decide +kernel) rfl (yJ rfl))) ji
  (fun _ _ _ _=>jN)
  (fun _ _ _ _=>(ju (qa (pv 0) (qa (qC (zc (K:=K) rfl) (pv 0) qg) qd)))))))) qv)
 (qdW TC3 (qc (qo (i:=3) Ke.nd rfl (yJ rfl) (je qd))
 (qc (qP (qp (zX (K:=K) rfl hu) (pv 2) qg (qD _)) (qc (q9 yP rfl (qbM rfl T.b_range (qa qg (qa (pv 1) qd))) (qr (i:=4) Ke.nd rfl (yJ rfl))
 (qc (qM (qbj (K:=K) rfl yN y8 y9 qO (pv 3) (qa (qx (qy (K:=K) rfl hu) (je (qa (ju (qa (qC qay (pv 4) qg) (qa (pv 4) qd))) (qa (ju (qa qg (qa (pv 4) qd))) qd))) (qY qae rfl T.b_int boot_int (qa (jC (zX (K:=K) rfl hu) (qC zT (pv 4) qg) qg (qD _)) qd)) (fun _ _=>rfl)) qd)))
 (qf (qP (qp (zX (K:=K) rfl hu) (qC zT (pv 4) qg) qg (qD _)) (qf (qM (qbj (K:=K) rfl yN y8 y9 qO (pv 3) (qa (ju (qa (qC qay (pv 4) qg) (qa (pv 4) qd))) qd)))) qv))))
 (qf (qm (pv 3)))) qv)
 (qc (qo (i:=5) Ke.nd rfl (yJ rfl) (qC (zc (K:=K) rfl) (qx (qy (K:=K) rfl hu) (je (qa qg (qa qg (qa qg (qa qg qd))))) (qt kS (hmR hr) qF (qa (pv 0) (qa qg qd))) (fun _ _=>rfl)) (qC qcn (pv 1) qg)))
 (qc (q9 yP rfl (qQ rfl T.b_range (qa (pv 1) qd)) (qr (i:=6) Ke.nd rfl (yJ rfl))
 (qf (q9 yP rfl (qbM rfl T.b_range (qa (qC (zc (K:=K) rfl) (pv 6) qg) (qa (pv 1) qd))) (qr (i:=7) Ke.nd rfl (yJ rfl))
 (qf (qP (PW.pt (qbd (qp (zX (K:=K) rfl hu) (qt kS (hmR hr) qF (qa (pv 0) (qa (pv 5) qd))) qg (qD _)) (qaP (qp qdj (qk (zr (K:=K) rfl) rfl T.b_len Y0 (qa (pv 3) qd)) qg (qD _))))) (qf (qM (qbj (K:=K) rfl yN y8 y9 qO (pv 3) (qa (ju (qa (pv 6) (qa (pv 7) qd))) qd)))) qv)))))
 (qf (qm (pv 3))))))) ?cut3)))),?_⟩
  case cut3 =>
   intro D σ J h;rw [hTC3] at h;obtain ⟨⟨way,rfl⟩,bJ,q⟩:=h;ext;refine ⟨by decide,fun l hl=>?_⟩;have F0:Fnd p H (upd J l (.lst [])) l [] []:=⟨bJ.new hl,bJ.free hl,bJ.apart hl,qb,.nil⟩;generalize upd J l (.lst [])=J0 at F0;ext;refine qa9 ?_;ext;refine qU (fun hw=>?_) fun hw=>?_
   ·ext;refine qfr ?_;ext;refine ⟨1,_,rfl,⟨by decide,by decide,by omega,by omega⟩,jl (fun i σ J'=>∃ (x4:Option V) (ts:List Addr) (TI:List (Nat×Nat)),σ=[some (.ref p),some (.int (m:Int)),some (.int way),some (.ref l),x4,none,none,none]/\Fnd p H J' l ts TI/\TI.length<=2 * i/\TI.Nodup/\∀ q∈TI,q.1 < q.2/\q.2 < m/\q.2 < i + 1)
     ⟨none,[],[],rfl,F0,yh _,.nil,fun _ h=>by cases h⟩ (fun i σ J1 hi hp=>?_) fun σ J1 hp=>?_⟩
    ·obtain ⟨x4,ts,TI,rfl,FJ,hlen,hnd,hall⟩:=hp;have him:i + 1 < m:=by omega
     ext;refine ⟨.inl ⟨rfl,_,SqL.of FJ.li.1⟩,?_⟩;ext;refine ⟨by show 2<=sizeLine;decide,fun t1 ht1=>?_⟩;have F1:=FJ.on ((BB.refl FJ.bb.2).new (o:=.tup [.int ((1:Int) + (i:Int) - 1),.int (1 + (i:Int))]) ht1)
     have e1:upd J1 t1 (.tup [.int ((1:Int) + (i:Int) - 1),.int (1 + (i:Int))]) t1=some (iT (i,i + 1)):=by
      rw [qb];have z1:(1:Int) + (i:Int) - 1=((i:Nat):Int):=by omega
      have z2:(1:Int) + (i:Int)=((i + 1:Nat):Int):=by omega
      rw [z1,z2]
     generalize upd J1 t1 (.tup [.int ((1:Int) + (i:Int) - 1),.int (1 + (i:Int))])=J2 at F1 e1;ext;refine ⟨by show 2<=sizeLine;decide,fun t2 ht2=>?_⟩;have b2:=(BB.refl F1.bb.2).new (o:=.tup [.int 0,.int (1 + (i:Int))]) ht2;have F2:=F1.on b2;replace e1:=b2.tup F1.bb.2 e1
     have e2:upd J2 t2 (.tup [.int 0,.int (1 + (i:Int))]) t2=some (iT (0,i + 1)):=by
      rw [qb];have z2:(1:Int) + (i:Int)=((i + 1:Nat):Int):=by omega
      rw [z2];rfl
     generalize upd J2 t2 (.tup [.int 0,.int (1 + (i:Int))])=J3 at F2 e1 e2;ext;refine ⟨by show 2<=sizeLine;decide,fun t3 ht3=>?_⟩;have b3:=(BB.refl F2.bb.2).new (o:=.lst [.ref t1,.ref t2]) ht3;have F3:=F2.on b3;replace e1:=b3.tup F2.bb.2 e1;replace e2:=b3.tup F2.bb.2 e2;have e3:upd J3 t3 (.lst [.ref t1,.ref t2]) t3=some (.lst [.ref t1,.ref t2]):=qb;generalize upd J3 t3 (.lst [.ref t1,.ref t2])=J4 at F3 e1 e2 e3;ext;refine vI (by decide) ?_;ext;refine qa9 ?_;ext;refine .inr ⟨_,rfl,?_⟩
     obtain ⟨tt,q0,htt,hq1,hq2,hq3,hat⟩:∃ (tt:Addr) (q0:Nat×Nat),J4 tt=some (iT q0)/\q0.1<=i/\q0.2=i + 1/\((1 + (i:Int)) % 3≠1->q0.1=i)/\atI [V.ref t1,V.ref t2] (if decide ((1 + (i:Int)) % 3=1)=true then 1 else 0)=some (.ref tt):=by
      by_cases hb:(1 + (i:Int)) % 3=1
      ·exact ⟨t2,(0,i + 1),e2,YC _,rfl,fun h=>absurd hb h,by rw [yI hb];rfl⟩
      ·exact ⟨t1,(i,i + 1),e1,yh _,rfl,fun _=>rfl,by rw [yl hb];rfl⟩
     refine .inl (zR e3 hat ?_);refine ⟨l,_,_,rfl,rfl,F3.li.1,by rw [ya,F3.li.2.len];exact qi (by omega),?_⟩;have hl1:=F3.li.2.len;have F4:=F3.app htt
     have hnd4:(TI++[q0]).Nodup:=yX.mpr ⟨hnd,by simp,fun a ha b hb e=>by
      rw [yB.mp hb] at e;have:=hall a ha;rw [e] at this;omega⟩
     have hall4:∀ q∈TI++[q0],q.1 < q.2/\q.2 < m/\q.2 < i + 1 + 1:=fun r hr=>by
      rcases yz.mp hr with z | z
      ·have:=hall r z;omega
      ·rw [yB.mp z];omega
     generalize upd J4 l (.lst (ts.map V.ref++[.ref tt]))=J5 at F4;ext;refine vI (by decide) ?_;ext;refine qa9 ?_;ext;refine qU (fun h3=>?_) fun h3=>?_
     ·have h3':(1 + (i:Int)) % 3=0:=yk h3;ext;refine ⟨.inl ⟨rfl,_,SqL.of F4.li.1⟩,?_⟩;ext;refine ⟨by show 2<=sizeLine;decide,fun t5 ht5=>?_⟩;have F5:=F4.on ((BB.refl F4.bb.2).new (o:=.tup [.int ((1:Int) + (i:Int) - 2),.int (1 + (i:Int))]) ht5)
      have e5:upd J5 t5 (.tup [.int ((1:Int) + (i:Int) - 2),.int (1 + (i:Int))]) t5=some (iT (i - 1,i + 1)):=by
       rw [qb];have z1:(1:Int) + (i:Int) - 2=((i - 1:Nat):Int):=by omega
       have z2:(1:Int) + (i:Int)=((i + 1:Nat):Int):=by omega
       rw [z1,z2]
      generalize upd J5 t5 (.tup [.int ((1:Int) + (i:Int) - 2),.int (1 + (i:Int))])=J6 at F5 e5;refine ⟨l,_,_,rfl,rfl,F5.li.1,by rw [ya,F5.li.2.len,yt];exact qi (by simp;omega),?_⟩;refine ⟨_,_,_,rfl,F5.app e5,by rw [yt,yt];simp;omega,?_,fun r hr=>?_⟩
      ·refine yX.mpr ⟨hnd4,by simp,fun a ha b hb e=>?_⟩;rw [yB.mp hb] at e;rcases yz.mp ha with z | z
       ·have:=hall a z;rw [e] at this;have h9:i + 1 < i + 1:=this.2.2;omega
       ·rw [yB.mp z] at e;have h8:=hq3 (by omega);rw [e] at h8;have h9:i - 1=i:=h8;omega
      ·rcases yz.mp hr with z | z
       ·exact hall4 r z
       ·rw [yB.mp z];exact ⟨by show i - 1 < i + 1;omega,by show i + 1 < m;omega,by show i + 1 < i + 1 + 1;omega⟩
     ·exact ⟨_,_,_,rfl,F4,by rw [yt];simp;omega,hnd4,hall4⟩
    ·obtain ⟨x4,ts,TI,rfl,FJ,hlen,hnd,hall⟩:=hp;ext;exact q l ts TI _ FJ ⟨by omega,fun r hr=>⟨(hall r hr).1,(hall r hr).2.1⟩,hnd⟩
   ·ext;refine ⟨by show 4<=sizeLine;decide,fun l4 hl4=>?_⟩;have F1:=F0.on ((BB.refl F0.bb.2).new (o:=.lst [.int 1,.int 2,.int 2,.int 3]) hl4);have n4:=F0.bb.apart hl4;have e4:upd J0 l4 (.lst [.int 1,.int 2,.int 2,.int 3]) l4=some (.lst [.int 1,.int 2,.int 2,.int 3]):=qb;generalize upd J0 l4 (.lst [.int 1,.int 2,.int 2,.int 3])=J1 at F1 e4;ext;refine ⟨p,4,rfl,F1.bb.2,by decide,by decide,fun r J2 r0 r1 b2=>?_⟩;have F2:=F1.on b2;replace e4:=b2.1 _ _ n4 e4
    obtain ⟨sp,hat,sp0,sp3⟩:∃ sp:Int,atI [V.int 1,V.int 2,V.int 2,V.int 3] r=some (.int sp)/\0 < sp/\sp<=3:=by
     have hr4:r=0\/r=1\/r=2\/r=3:=by omega
     rcases hr4 with rfl | rfl | rfl | rfl<;>exact ⟨_,rfl,by decide,by decide⟩
    refine .inl (zR e4 hat ?_);ext;refine vI ⟨by decide,by decide⟩ ?_;ext;have hm8:(m:Int) / 8=0:=by omega
    rw [hm8,Int.add_zero];refine ⟨_,rfl,by omega,by omega,jl (fun i σ J'=>∃ (x6 x7:Option V) (ts:List Addr) (TI:List (Nat×Nat)),σ=[some (.ref p),some (.int (m:Int)),some (.int way),some (.ref l),none,some (.int sp),x6,x7]/\Fnd p H J' l ts TI/\TJ m TI/\∀ q∈TI,q.1 < i)
     ⟨none,none,[],[],rfl,F2,⟨by decide,(fun _ h=>by cases h),.nil⟩,fun _ h=>by cases h⟩ (fun i σ J3 hi hp=>?_) fun σ J3 hp=>?_⟩
    ·obtain ⟨x6,x7,ts,TI,rfl,FJ,hTJ,hall⟩:=hp;ext;refine qfr ?_;ext;refine ⟨_,_,rfl,⟨by omega,by omega,by omega,by omega⟩,jl (fun k σ J'=>∃ (x7:Option V) (ts:List Addr) (TI:List (Nat×Nat)),σ=[some (.ref p),some (.int (m:Int)),some (.int way),some (.ref l),none,some (.int sp),some (.int (0 + (i:Int))),x7]/\Fnd p H J' l ts TI/\TJ m TI/\∀ q∈TI,q.1 < i\/(q.1=i/\q.2 < i + 1 + k))
      ⟨_,ts,TI,rfl,FJ,hTJ,fun r hr=>.inl (hall r hr)⟩ (fun k σ J4 hk hp=>?_) fun σ J4 hp=>?_⟩
     ·obtain ⟨x7,ts,TI,rfl,FJ,hTJ,hall⟩:=hp;ext;refine ⟨p,sp,rfl,FJ.bb.2,sp0,by omega,fun r J5 r0 r1 b5=>?_⟩;have F5:=FJ.on b5;ext;refine qa9 ?_;ext;refine qU (fun h5=>?_) fun h5=>?_
      ·ext;refine zU (SqL.of F5.li.1) ?_;ext;refine qU (fun h6=>?_) fun h6=>?_
       ·have h6':TI.length < 30:=by have:=yk h6;rw [F5.li.lenV] at this;omega
        ext;refine ⟨.inl ⟨rfl,_,SqL.of F5.li.1⟩,?_⟩;ext;refine ⟨by show 2<=sizeLine;decide,fun t6 ht6=>?_⟩;have F6:=F5.on ((BB.refl F5.bb.2).new (o:=.tup [.int (0 + (i:Int)),.int (0 + (i:Int) + 1 + (k:Int))]) ht6)
        have e6:upd J5 t6 (.tup [.int (0 + (i:Int)),.int (0 + (i:Int) + 1 + (k:Int))]) t6=some (iT (i,i + 1 + k)):=by
         rw [qb];have z1:(0:Int) + (i:Int)=((i:Nat):Int):=by omega
         have z2:(0:Int) + (i:Int) + 1 + (k:Int)=((i + 1 + k:Nat):Int):=by omega
         rw [z2,z1]
        generalize upd J5 t6 (.tup [.int (0 + (i:Int)),.int (0 + (i:Int) + 1 + (k:Int))])=J6 at F6 e6;refine ⟨l,_,_,rfl,rfl,F6.li.1,by rw [ya,F6.li.2.len];exact qi (by omega),?_⟩;refine ⟨_,_,_,rfl,F6.app e6,hTJ.snoc h6' ⟨by show i < i + 1 + k;omega,by show i + 1 + k < m;omega⟩ (fun z=>?_),fun r hr=>?_⟩
        ·have:=hall _ z;have h9:i < i\/(i=i/\i + 1 + k < i + 1 + k):=this;omega
        ·rcases yz.mp hr with z | z
         ·have:=hall r z;omega
         ·rw [yB.mp z];exact .inr ⟨rfl,by show i + 1 + k < i + 1 + (k + 1);omega⟩
       ·exact ⟨_,_,_,rfl,F5,hTJ,fun r hr=>by have:=hall r hr;omega⟩
      ·exact ⟨_,_,_,rfl,F5,hTJ,fun r hr=>by have:=hall r hr;omega⟩
     ·obtain ⟨x7,ts,TI,rfl,FJ,hTJ,hall⟩:=hp;exact ⟨_,_,_,_,rfl,FJ,hTJ,fun r hr=>by have:=hall r hr;omega⟩
    ·obtain ⟨x6,x7,ts,TI,rfl,FJ,hTJ,hall⟩:=hp;ext;exact q l ts TI _ FJ hTJ
  ext;refine ⟨p,7,rfl,hB,by decide,by decide,fun way H1 w0 w1 b1=>?_⟩;ext;refine qa9 ?_;ext;refine qU (fun hw=>?_) fun hw=>?_
  ·ext;refine ⟨_,rfl,by omega,by omega,jT (lo:=0) (fun i ys G=>BB p H G/\∃ us:List Addr,ys=us.map V.ref/\All2 (fun t q=>G t=some (iT q)) us (chT i)) ⟨b1,[],rfl,.nil⟩ (fun i ys G hi hs=>?_) fun ys G hs=>?_⟩
   ·obtain ⟨bG,us,rfl,hA⟩:=hs;ext;refine qai ?_;ext;refine ⟨by show 2<=sizeLine;decide,fun t ht=>?_⟩;have hul:us.length=i:=by rw [hA.len,qax]
    rw [xL];refine ⟨by rw [ya];exact qi (by omega),bG.new ht,us++[t],by rw [yG];rfl,?_⟩;rw [qc8];exact (hA.mono fun u r z=>by rw [qe (qj z ht)];exact z).snoc qb
   ·obtain ⟨bG,us,rfl,hA⟩:=hs;have hul:=hA.len;rw [qax] at hul;refine ⟨by rw [ya];exact yZ (qi (by omega)),fun l hl=>?_⟩;refine q l us _ _ ⟨bG.new hl,bG.free hl,bG.apart hl,qb,hA.mono fun u r z=>by rw [qe (qj z hl)];exact z⟩ ⟨by rw [qax];omega,fun r hr=>?_,qey _⟩;have:=qcD hr;omega
  ·ext;refine qa9 ?_;ext;refine qU (fun h1=>?_) fun h1=>?_
   ·ext;refine qU (fun h2=>?_) fun h2=>?_
    ·have hm2:2 < m:=by have:=yk h2;omega
     ext;refine ⟨by show 2<=sizeLine;decide,fun t0 ht0=>?_⟩;have bt:=b1.new (o:=.tup [.int 0,.int ((m:Int) - 1)]) ht0
     have e0:upd H1 t0 (.tup [.int 0,.int ((m:Int) - 1)]) t0=some (iT (0,m - 1)):=by
      rw [qb,show ((m:Int) - 1)=((m - 1:Nat):Int) by omega];rfl
     generalize upd H1 t0 (.tup [.int 0,.int ((m:Int) - 1)])=H2 at bt e0;ext;refine ⟨by show 1<=sizeLine;decide,fun l1 hl1=>?_⟩;have b3:=(BB.refl bt.2).new (o:=.lst [.ref t0]) hl1;have np1:=bt.apart hl1;have b03:=bt.trans b3;replace e0:=b3.tup bt.2 e0;have e1:upd H2 l1 (.lst [.ref t0]) l1=some (.lst [.ref t0]):=qb;generalize upd H2 l1 (.lst [.ref t0])=H3 at b3 b03 e0 e1;ext;refine ⟨_,rfl,by omega,by omega,jT (lo:=0) (fun i ys G=>BB p H3 G/\∃ us:List Addr,ys=us.map V.ref/\All2 (fun t q=>G t=some (iT q)) us (chT i)) ⟨BB.refl b03.2,[],rfl,.nil⟩ (fun i ys G hi hs=>?_) fun ys G hs=>?_⟩
     ·obtain ⟨bG,us,rfl,hA⟩:=hs;ext;refine qai ?_;ext;refine ⟨by show 2<=sizeLine;decide,fun t ht=>?_⟩;have hul:us.length=i:=by rw [hA.len,qax]
      rw [xL];refine ⟨by rw [ya];exact qi (by omega),bG.new ht,us++[t],by rw [yG];rfl,?_⟩;rw [qc8];exact (hA.mono fun u r z=>by rw [qe (qj z ht)];exact z).snoc qb
     ·obtain ⟨bG,us,rfl,hA⟩:=hs;have hul:=hA.len;rw [qax] at hul;refine ⟨by rw [ya];exact yZ (qi (by omega)),fun l2 hl2=>?_⟩;have b4:=bG.new (o:=.lst (us.map V.ref)) hl2;have hA2:=hA.mono fun u r z=>(show upd G l2 (.lst (us.map V.ref)) u=some (iT r) by rw [qe (qj z hl2)];exact z);have e2:upd G l2 (.lst (us.map V.ref)) l2=some (.lst (us.map V.ref)):=qb;replace e0:=b4.tup b03.2 e0;replace e1:=b4.1 _ _ np1 e1;replace b4:=b03.trans b4;generalize upd G l2 (.lst (us.map V.ref))=G2 at b4 hA2 e0 e1 e2;refine qez e1 e2 (by rw [ya];show 1 + _<=_;omega) fun l hl=>?_;refine q l (t0::us) ((0,m - 1)::chT ((m:Int) - 1).toNat) _ ⟨b4.new hl,b4.free hl,b4.apart hl,qb,?_⟩ ⟨by rw [yC,qax];omega,fun r hr=>?_,?_⟩
      ·exact All2.cons (by rw [qe (qj e0 hl)];exact e0) (hA2.mono fun u r z=>by rw [qe (qj z hl)];exact z)
      ·rcases yx.mp hr with rfl | hr
       ·exact ⟨by show 0 < m - 1;omega,by show m - 1 < m;omega⟩
       ·have:=qcD hr;omega
      ·refine yo.mpr ⟨fun z=>?_,qey _⟩;have z2:=(qcD z).2;have z3:m - 1=0 + 1:=z2;omega
    ·rw [hTC3];exact ⟨⟨way,rfl⟩,b1,fun l ts TI H'=>q l ts TI H'⟩
   ·rw [hTC3];exact ⟨⟨way,rfl⟩,b1,fun l ts TI H'=>q l ts TI H'⟩
theorem k7:FnScope ["_law_state","_law_most","_law_sizes","_law_size","_law_names_here","_law_ties","_law_turn","_law_one","_law_other","_law_tie"] ["_law_state","_law_most"] (qh qat):=fS
theorem qfK {i j:Int} {Q:VK} (q:Q (.bl (!decide (i=j))) H):qeq K true (.int i) (.int j) H Q:=.inl ⟨rfl,rfl,by
 have e:eqV (V.int i) (V.int j)=decide (i=j):=by have:=qaN i j;rwa [yy (by decide)] at this
 rw [yE rfl,e];exact q⟩
theorem All2.permQ {TI:List (Nat×Nat)} (h:All2 (fun t q=>H t=some (iT q)) ts TI) (p:us.Perm ts):∃ TI':List (Nat×Nat),All2 (fun t q=>H t=some (iT q)) us TI'/\TI'.Perm TI:=by
 have key:∀ {us ts:List Addr},us.Perm ts->∀ TI:List (Nat×Nat),All2 (fun t q=>H t=some (iT q)) ts TI->∃ TI':List (Nat×Nat),All2 (fun t q=>H t=some (iT q)) us TI'/\TI'.Perm TI:=by
  intro us ts p
  induction p with
  | nil=>intro TI h;exact ⟨TI,h,.refl _⟩
  | @cons x l1 l2 p ih =>
   intro TI h
   cases TI with
   | nil=>have:=h.len;simp at this
   | cons q TI =>
    obtain ⟨TI',h1,h2⟩:=ih TI ⟨by simpa using h.len,fun k a b ha hb=>h.at_ (k + 1) a b (by simpa using ha) (by simpa using hb)⟩;exact ⟨q::TI',h1.cons (h.at_ 0 x q rfl rfl),h2.cons _⟩
  | @swap x y l =>
   intro TI h
   cases TI with
   | nil=>have:=h.len;simp at this
   | cons q TI =>
    cases TI with
    | nil=>have:=h.len;simp at this
    | cons q' TI =>
     refine ⟨q'::q::TI,All2.cons (h.at_ 1 _ q' rfl rfl) (All2.cons (h.at_ 0 _ q rfl rfl) ⟨by simpa using h.len,fun k a b ha hb=>h.at_ (k + 2) a b (by simpa using ha) (by simpa using hb)⟩),.swap _ _ _⟩
  | trans _ _ ih1 ih2 =>
   intro TI h;obtain ⟨T1,a1,b1⟩:=ih2 TI h;obtain ⟨T2,a2,b2⟩:=ih1 T1 a1;exact ⟨T2,a2,b2.trans b1⟩
 exact key p TI h
theorem TJ.perm {TI TI':List (Nat×Nat)} (h:TJ m TI) (p:TI'.Perm TI):TJ m TI':=⟨by rw [p.length_eq];exact h.1,fun q hq=>h.2.1 q (p.mem_iff.mp hq),p.nodup_iff.mpr h.2.2⟩
structure Drw (p:Addr) (H J:Hp) (ln lt:Addr) (ss:List Str) (ts:List Addr) (TI:List (Nat×Nat)):Prop where
 bb:BB p H J
 o1:H ln=none
 o2:H lt=none
 n1:ln≠p
 n2:lt≠p
 n3:ln≠lt
 nm:J ln=some (.lst (ss.map V.str))
 nok:NOk ss
 few:ss.length<=7
 li:IPL J lt ts TI
 tj:TJ ss.length TI
theorem Drw.on {lt:Addr} {TI:List (Nat×Nat)} (h:Drw p H J ln lt ss ts TI) (b:BB p J J'):Drw p H J' ln lt ss ts TI:=
 ⟨h.bb.trans b,h.o1,h.o2,h.n1,h.n2,h.n3,b.1 _ _ h.n1 h.nm,h.nok,h.few,h.li.bb h.bb.2 b h.n2,h.tj⟩
theorem Drw.app {t:Addr} {lt:Addr} {TI:List (Nat×Nat)} (h:Drw p H J ln lt ss ts TI) (ht:J t=some (iT q)) (hj:TJ ss.length (TI++[q])):Drw p H (upd J lt (.lst (ts.map V.ref++[.ref t]))) ln lt ss (ts++[t]) (TI++[q]):=by
 have F:Fnd p H J lt ts TI:=⟨h.bb,h.o2,h.n2,h.li⟩;have F2:=F.app ht;exact ⟨F2.bb,h.o1,h.o2,h.n1,h.n2,h.n3,by rw [qe h.n3];exact h.nm,h.nok,h.few,F2.li,hj⟩
inductive spDrQ (vs:List V) (H:Hp) (Q:VK) (E:XK):Prop|mk (p:Addr) (_:vs=[.ref p,.int 7]) (_:Box H p) (_:∀ (r ln lt:Addr) (ss:List Str) (ts:List Addr) (TI:List (Nat×Nat)) (H':Hp),Drw p H H' ln lt ss ts TI->H' r=some (.lst [.ref ln,.ref lt])->Q (.ref r) H')
theorem ok_drQ (F:Fun K "_law_drawn" "_law_drawn" qat f fd) (T:Txt K mg cc cw) (kS:DefOk P w K mg base CX0 1 "_law_take" ["_law_state","_law_many"] spTake) (uF:DefOk P w K mg base CX0 2 "_law_names" ["_law_state","_law_many"] spNmQ) (uG:DefOk P w K mg base CX0 2 "_law_shape" ["_law_state","_law_size"] spShQ):FnOk P w K mg base CX0 3 f fd ["_law_state","_law_most"] spDrQ:=by
 refine F.ok k7 fun _ _ _ _ H vs Q E hr h=>?_
 ·obtain ⟨p,rfl,hB,q⟩:=h;have hu:=za hr;refine ⟨_,(qc (qo (i:=2) k7.nd rfl (yJ rfl) (je (qa (qt kS (hmR hr) qF (qa (pv 0) (qa qg qd))) (qa (qt kS (hmR hr) qF (qa (pv 0) (qa (qC (zc (K:=K) rfl) (pv 1) qg) qd))) qd))))
 (qc (qo (i:=3) k7.nd rfl (yJ rfl) (qk (qad rfl) rfl T.b_min boot_min (qa (pv 1) (qa (qx (qy (K:=K) rfl hu) (pv 2) (qY qae rfl T.b_int boot_int (qa (jC (zX (K:=K) rfl hu) (qt kS (hmR hr) qF (qa (pv 0) (qa qg qd))) qg (qD _)) qd)) (fun _ _=>rfl)) qd))))
 (qc (qo (i:=4) k7.nd rfl (yJ rfl) (qt uF (hmR hr) qF (qa (pv 0) (qa (pv 3) qd))))
 (qc (qo (i:=5) k7.nd rfl (yJ rfl) (qt uG (hmR hr) qF (qa (pv 0) (qa (pv 3) qd))))
 (qc (q9 yP rfl (qQ rfl T.b_range (qa (qC qbs (qt kS (hmR hr) qF (qa (pv 0) (qa qg qd))) (qY qae rfl T.b_int boot_int (qa (jC qdb (pv 3) qg (qD _)) qd))) qd)) (qr (i:=6) k7.nd rfl (yJ rfl))
 (qc (qo (i:=7) k7.nd rfl (yJ rfl) (qt kS (hmR hr) qF (qa (pv 0) (qa (pv 3) qd))))
 (qc (qo (i:=8) k7.nd rfl (yJ rfl) (qt kS (hmR hr) qF (qa (pv 0) (qa (pv 3) qd))))
 (qc (qo (i:=9) k7.nd rfl (yJ rfl) (ju (qa (qk (qad rfl) rfl T.b_min boot_min (qa (pv 7) (qa (pv 8) qd))) (qa (qk (qac rfl) rfl T.b_max boot_max (qa (pv 7) (qa (pv 8) qd))) qd))))
 (qf (qP (PW.pt (qbd (qp (qaB (K:=K) rfl hu) (pv 7) (pv 8) (qD _)) (qbd (qp (qbv (K:=K) rfl hu) (pv 9) (pv 5) (by with_unfolding_all rfl)) (qaP (qp qdj (qk (zr (K:=K) rfl) rfl T.b_len Y0 (qa (pv 5) qd)) qg (qD _)))))) (qf (qM (qbj (K:=K) rfl yN y8 y9 qO (pv 5) (qa (pv 9) qd)))) qv))))))
 (qf (qm (je (qa (pv 4) (qa (qk (k_sortT) rfl T.b_sorted boot_sorted (qa (pv 5) qd)) qd)))))))))),?_⟩
  ext;refine ⟨p,8,rfl,hB,by decide,by decide,fun r1 H1 r10 r11 b1=>?_⟩;ext;refine ⟨p,_,rfl,b1.2,by decide,by decide,fun r2 H2 r20 r21 b2=>?_⟩;replace b2:=b1.trans b2;refine ⟨by show 2<=sizeLine;decide,fun sl hsl=>?_⟩;have b3:=b2.new (o:=.lst [.int r1,.int r2]) hsl;have e3:upd H2 sl (.lst [.int r1,.int r2]) sl=some (.lst [.int r1,.int r2]):=qb;have n3:=b2.apart hsl;generalize upd H2 sl (.lst [.int r1,.int r2])=H3 at b3 e3;ext;refine ⟨p,8,rfl,b3.2,by decide,by decide,fun r3 H4 r30 r31 b4=>?_⟩;replace e3:=b4.1 _ _ n3 e3;replace b4:=b3.trans b4;ext;refine qa9 ?_;ext;refine .inr ⟨_,rfl,?_⟩
  obtain ⟨m,hat,hm7⟩:∃ m:Nat,atI [V.int r1,V.int r2] (if decide (r3=7)=true then 1 else 0)=some (.int (m:Int))/\m<=7:=by
   by_cases hb:r3=7
   ·exact ⟨r2.toNat,by rw [yI hb,Int.toNat_of_nonneg r20];rfl,by omega⟩
   ·exact ⟨r1.toNat,by rw [yl hb,Int.toNat_of_nonneg r10];rfl,by omega⟩
  refine .inl (zR e3 hat ?_);ext;refine ⟨_,_,rfl,?_⟩;have em:(if (m:Int) < 7 then (m:Int) else 7)=(m:Int):=by split<;>omega
  rw [em];ext;refine ⟨p,m,rfl,b4.2,hm7,fun ln ss H5 b5 hln hNL hNO hsm=>?_⟩;have b05:=b4.trans b5;have ln0:=b4.free hln;ext;refine ⟨p,m,rfl,b5.2,hm7,fun lt ts TI H6 F6 hTJ=>?_⟩;have D6:Drw p H H6 ln lt ss ts TI:=⟨b05.trans F6.bb,ln0,b05.free F6.old,hNL.2,F6.np,(fun z=>by rw [z] at hNL;have:=hNL.1;rw [F6.old] at this;cases this),F6.bb.1 _ _ hNL.2 hNL.1,hNO,by omega,F6.li,by rw [hsm];exact hTJ⟩;ext;refine ⟨p,3,rfl,F6.bb.2,by decide,by decide,fun r4 H7 r40 r41 b7=>?_⟩;have D7:=D6.on b7;ext;refine .inr ⟨_,rfl,?_⟩;ext;refine qbt (.inl ⟨by omega,by omega⟩) ?_;ext;refine ⟨_,rfl,by split<;>omega,by split<;>omega,jl (fun i σ J=>∃ (x6 x7 x8 x9:Option V) (ts:List Addr) (TI:List (Nat×Nat)),σ=[some (.ref p),some (.int 7),some (.ref sl),some (.int (m:Int)),some (.ref ln),some (.ref lt),x6,x7,x8,x9]/\Drw p H J ln lt ss ts TI)
   ⟨none,none,none,none,ts,TI,rfl,D7⟩ (fun i σ J hi hp=>?_) fun σ J hp=>?_⟩
  ·obtain ⟨x6,x7,x8,x9,ts,TI,rfl,DJ⟩:=hp
   have hm1:1 < m:=by
    apply Yz;intro z;have z':¬ (1:Int) < (m:Int):=by omega
    rw [yl z'] at hi;simp at hi
   ext;refine ⟨p,m,rfl,DJ.bb.2,by omega,by omega,fun one J1 o0 o1 c1=>?_⟩;have D1:=DJ.on c1;ext;refine ⟨p,m,rfl,D1.bb.2,by omega,by omega,fun other J2 t0 t1 c2=>?_⟩;have D2:=D1.on c2;obtain ⟨a,rfl⟩:=YN o0;obtain ⟨b,rfl⟩:=YN t0;ext;refine ⟨_,_,rfl,?_⟩;ext;refine ⟨_,_,rfl,?_⟩;ext;refine ⟨by show 2<=sizeLine;decide,fun t ht=>?_⟩;have e1:(if (b:Int) < (a:Int) then (b:Int) else (a:Int))=((min a b:Nat):Int):=by split<;>omega
   have e2:(if (b:Int) > (a:Int) then (b:Int) else (a:Int))=((max a b:Nat):Int):=by split<;>omega
   rw [e1,e2];have D3:=D2.on ((BB.refl D2.bb.2).new (o:=.tup [.int ((min a b:Nat):Int),.int ((max a b:Nat):Int)]) ht);have et:upd J2 t (.tup [.int ((min a b:Nat):Int),.int ((max a b:Nat):Int)]) t=some (iT (min a b,max a b)):=qb;generalize upd J2 t (.tup [.int ((min a b:Nat):Int),.int ((max a b:Nat):Int)])=J3 at D3 et;ext;refine qfK ?_;ext;have go:∃ (x6 x7 x8 x9:Option V) (ts:List Addr) (TI:List (Nat×Nat)),[some (V.ref p),some (.int 7),some (.ref sl),some (.int (m:Int)),some (.ref ln),some (.ref lt),some (.int (0 + (i:Int))),some (.int (a:Int)),some (.int (b:Int)),some (.ref t)]=[some (.ref p),some (.int 7),some (.ref sl),some (.int (m:Int)),some (.ref ln),some (.ref lt),x6,x7,x8,x9]/\Drw p H J3 ln lt ss ts TI:=⟨_,_,_,_,_,_,rfl,D3⟩;refine qU (fun h1=>?_) fun h1=>go;have hab:a≠b:=fun z=>by subst z;simp at h1
   ext;refine ipl_nin D3.li et ?_;ext;refine qU (fun h2=>?_) fun h2=>go;have hno:(min a b,max a b)∉TI:=by simpa using h2
   ext;refine zU (SqL.of D3.li.1) ?_;ext;refine qU (fun h3=>?_) fun h3=>go;have h3':TI.length < 30:=by have:=yk h3;rw [D3.li.lenV] at this;omega
   ext;refine ⟨.inl ⟨rfl,_,SqL.of D3.li.1⟩,?_⟩;ext;refine ⟨lt,_,_,rfl,rfl,D3.li.1,by rw [ya,D3.li.2.len];exact qi (by omega),?_⟩;exact ⟨_,_,_,_,_,_,rfl,D3.app et (D3.tj.snoc h3' ⟨by show min a b < max a b;omega,by show max a b < _;omega⟩ hno)⟩
  ·obtain ⟨x6,x7,x8,x9,ts,TI,rfl,DJ⟩:=hp;ext;refine ⟨lt,ts,rfl,DJ.li.1,by rw [DJ.li.2.len];have:=DJ.tj.1;omega,fun t ht=>?_,fun l us hl hper=>?_⟩
   ·obtain ⟨q',_,r⟩:=DJ.li.2.mem ht;exact ⟨_,_,r⟩
   ·obtain ⟨TI',hA',hp'⟩:=DJ.li.2.permQ hper;have b8:=(BB.refl DJ.bb.2).new (o:=.lst (us.map V.ref)) hl;have nln:ln≠l:=qj DJ.nm hl;have D8:Drw p H (upd J l (.lst (us.map V.ref))) ln l ss us TI':=⟨DJ.bb.trans b8,DJ.o1,DJ.bb.free hl,DJ.n1,DJ.bb.apart hl,nln,by rw [qe nln];exact DJ.nm,DJ.nok,DJ.few,⟨qb,hA'.mono fun u r z=>by rw [qe (qj z hl)];exact z⟩,DJ.tj.perm hp'⟩;generalize upd J l (.lst (us.map V.ref))=J8 at D8;ext;refine ⟨by show 2<=sizeLine;decide,fun r hr=>?_⟩;exact q r ln l ss us TI' _ (D8.on ((BB.refl D8.bb.2).new hr)) qb
theorem KF:FnScope ["_law_state","_law_names_here","_law_ties","_law_found","_law_one","_law_other","_law_tie"] ["_law_state","_law_names_here","_law_ties"] (qh qbD):=fS
noncomputable def TEq (ss:List Str) (TI:List (Nat×Nat)) (tps:List (Str×Str)):Prop:=∀ (i j:Nat) (s t:Str),ss[i]?=some s->ss[j]?=some t->(tA tps s t↔((i,j)∈TI\/(j,i)∈TI))
noncomputable def NmP (ss:List Str) (q:Nat×Nat) (ab:Str×Str):Prop:=(ss[q.1]?=some ab.1/\ss[q.2]?=some ab.2)\/(ss[q.1]?=some ab.2/\ss[q.2]?=some ab.1)
theorem NmP.key (nd:ss.Nodup) {r:Nat×Nat} {cd:Str×Str} (hq:q.1 < q.2) (hr:r.1 < r.2) (h:NmP ss q ab) (g:NmP ss r cd) (e:ab=cd\/ab=(cd.2,cd.1)):q=r:=by
 obtain ⟨a,b⟩:=ab;obtain ⟨c,d⟩:=cd;unfold NmP at h g;dsimp only at h g e;have inj:∀ {i j:Nat} {s:Str},ss[i]?=some s->ss[j]?=some s->i=j:=fun x y=>qw nd x y;rcases e with e | e
 ·injection e with e1 e2
  subst e1 e2;rcases h with ⟨h1,h2⟩ | ⟨h1,h2⟩<;>rcases g with ⟨g1,g2⟩ | ⟨g1,g2⟩
  ·exact xy (inj h1 g1) (inj h2 g2)
  ·have:=inj h1 g2;have:=inj h2 g1;omega
  ·have:=inj h1 g2;have:=inj h2 g1;omega
  ·exact xy (inj h1 g1) (inj h2 g2)
 ·injection e with e1 e2
  subst e1 e2;rcases h with ⟨h1,h2⟩ | ⟨h1,h2⟩<;>rcases g with ⟨g1,g2⟩ | ⟨g1,g2⟩
  ·have:=inj h1 g2;have:=inj h2 g1;omega
  ·exact xy (inj h1 g1) (inj h2 g2)
  ·exact xy (inj h1 g1) (inj h2 g2)
  ·have:=inj h1 g2;have:=inj h2 g1;omega
theorem NmP.inn (h:NmP ss q ab):ab.1∈ss/\ab.2∈ss:=h.elim (fun z=>⟨ye z.1,ye z.2⟩) fun z=>⟨ye z.2,ye z.1⟩
theorem NmP.ne (nd:ss.Nodup) (hq:q.1 < q.2) (h:NmP ss q ab):ab.1≠ab.2:=fun e=>by
 rcases h with ⟨h1,h2⟩ | ⟨h1,h2⟩
 ·rw [e] at h1;have:=qw nd h1 h2;omega
 ·rw [<- e] at h1;have:=qw nd h1 h2;omega
theorem qfs (nd:ss.Nodup) {TI:List (Nat×Nat)} (hj:TJ ss.length TI) (h:All2 (NmP ss) TI tps):TGo ss tps/\TEq ss TI tps:=by
 refine ⟨⟨by rw [<- h.len];exact hj.1,fun ab hab=>?_,?_⟩,fun i j s t hs ht=>⟨fun z=>?_,fun z=>?_⟩⟩
 ·obtain ⟨k,hk⟩:=yf hab;obtain ⟨q,hq⟩:∃ q,TI[k]?=some q:=⟨_,yb (by rw [h.len];exact (yc.mp hk).1)⟩;have:=h.at_ k q ab hq hk;exact ⟨this.inn.1,this.inn.2,this.ne nd (hj.2.1 q (ye hq)).1⟩
 ·refine YS.mpr fun i j hi hj' hij=>?_;have hti:i < TI.length:=by rw [h.len];exact hi
  have htj:j < TI.length:=by rw [h.len];exact hj'
  have a1:=h.at_ i TI[i] tps[i] (yb hti) (yb hi);have a2:=h.at_ j TI[j] tps[j] (yb htj) (yb hj');have l1:=(hj.2.1 _ (YO hti)).1;have l2:=(hj.2.1 _ (YO htj)).1
  have key:∀ e:tps[i]=tps[j]\/tps[i]=(tps[j].2,tps[j].1),False:=fun e=>by
   have:=NmP.key nd l1 l2 a1 a2 e;exact (YS.mp hj.2.2 i j hti htj hij) this
  exact ⟨fun e=>key (.inl e),fun e=>key (.inr e)⟩
 ·have main:∀ {s t:Str} {i j:Nat},ss[i]?=some s->ss[j]?=some t->(s,t)∈tps->((i,j)∈TI\/(j,i)∈TI):=fun {s t i j} hs ht hm=>by
   obtain ⟨k,hk⟩:=yf hm;obtain ⟨q,hq⟩:∃ q,TI[k]?=some q:=⟨_,yb (by rw [h.len];exact (yc.mp hk).1)⟩;have hm:=ye hq;rcases h.at_ k q _ hq hk with ⟨z1,z2⟩ | ⟨z1,z2⟩
   ·have e1:=qw nd z1 hs;have e2:=qw nd z2 ht;left;rw [<- e1,<- e2];exact hm
   ·have e1:=qw nd z1 ht;have e2:=qw nd z2 hs;right;rw [<- e1,<- e2];exact hm
  rcases z with z | z
  ·exact main hs ht z
  ·exact (main ht hs z).symm
 ·have main:∀ {s t:Str} {i j:Nat},ss[i]?=some s->ss[j]?=some t->(i,j)∈TI->tA tps s t:=fun {s t i j} hs ht hm=>by
   obtain ⟨k,hk⟩:=yf hm;obtain ⟨ab,hab⟩:∃ ab,tps[k]?=some ab:=⟨_,yb (by rw [<- h.len];exact (yc.mp hk).1)⟩;have hm:=ye hab;obtain ⟨a,b⟩:=ab;rcases h.at_ k _ _ hk hab with ⟨z1,z2⟩ | ⟨z1,z2⟩
   ·rw [hs] at z1;rw [ht] at z2;cases z1;cases z2;exact .inl hm
   ·rw [hs] at z1;rw [ht] at z2;cases z1;cases z2;exact .inr hm
  rcases z with z | z
  ·exact main hs ht z
  ·exact Or.symm (main ht hs z)
theorem All2.revQ {R:α->β->Prop} {l:List α} {m:List β} (h:All2 R l m):All2 R l.reverse m.reverse:=by
 refine ⟨by rw [Yl,Yl,h.len],fun k a b ha hb=>?_⟩;have hl:=h.len;have h1:k < l.length:=by have:=(yc.mp ha).1;rwa [Yl] at this
 rw [xQ h1] at ha;rw [xQ (by omega),<- hl] at hb;exact h.at_ _ a b ha hb
theorem TJ.rev {TI:List (Nat×Nat)} (h:TJ m TI):TJ m TI.reverse:=h.perm (kf _)
theorem TEq.rev {TI:List (Nat×Nat)} (h:TEq ss TI.reverse tps):TEq ss TI tps:=fun i j s t hs ht=>by
 have:=h i j s t hs ht
 rwa [xY,xY] at this
theorem wt_newQ {y:Addr} (h:WebN H0 cw H y ss ns) (hb:qa4 ss ns kps) (g:TGo ss kps):Wt cw H y ss ns kps:=
 ⟨h.web,fun a b s t ha hb'=>by rw [hb.2.2 a b s t ha hb',yY],g.inn⟩
inductive spWbQ (cw:Addr) (vs:List V) (H:Hp) (Q:VK) (E:XK):Prop|mk (p ln lt:Addr) (ss:List Str) (ts:List Addr) (TI:List (Nat×Nat)) (_:vs=[.ref p,.ref ln,.ref lt]) (_:Box H p) (_:ln≠p) (_:lt≠p) (_:H ln=some (.lst (ss.map V.str))) (_:NOk ss) (_:ss.length<=7) (_:IPL H lt ts TI) (_:TJ ss.length TI) (_:∀ (x:Addr) (ns:List Nat) (tps:List (Str×Str)) (H':Hp),BB p H H'->Wt cw H' x ss ns tps->(∀ J,BB p H' J->Wt cw J x ss ns tps)->TEq ss TI tps->Q (.ref x) H')
theorem qeA {m y:Addr} {Q:VK} (hm:LTu G m (ss.map V.str)) (hN:NOk ss) (hP:PLT G l us kps) (hg:TGo ss kps) (hy:G y=none) (hd:G dx=none) (hne:dx≠y) (hB:Box G p)
  (h:∀ ns H2,L2.Same G H2->Wt cw H2 y ss ns kps->(∀ J,BB p H2 J->Wt cw J y ss ns kps)->Q .non H2):spWeb cw [.ref y,.ref m,.ref l] (upd (upd G dx (.own y)) y (.ins cw dx [])) Q E:=by
 have s2:=qL (qL (Sr G) (o:=.own y) hd) (o:=.ins cw dx []) (show upd G dx (.own y) y=none by rw [qe (Ye hne)];exact hy);refine ⟨y,dx,m,l,ss,us,kps,rfl,qb,hm.same s2,hN.few,hN.nd,hN.nm,⟨hP.1.same s2,hP.2.mono fun _ _ z=>s2 _ _ z⟩,hg,fun ns H' b hN' hb=>?_⟩;obtain ⟨a1,b1,c1,e1⟩:=hB;have sG:L2.Same G H':=fun c o e=>b c o (fun z=>by rw [z,hy] at e;cases e) (s2 _ _ e);have W:=wt_newQ hN' hb hg;refine h ns H' sG W fun J bJ=>⟨?_,W.adj,W.ok⟩;obtain ⟨wx,d,ol,n,h1,h2,h3,h4,h5,h6,h7,h8⟩:=hN';have hp2:=s2 _ _ e1;have np:∀ {c:Addr},upd (upd G dx (.own y)) y (.ins cw dx []) c=none->c≠p:=fun z w=>by rw [w,hp2] at z;cases z
 have ny:y≠p:=fun w=>by rw [w,e1] at hy;cases hy
 exact ⟨wx,d,ol,n,bJ.1 _ _ ny h1,bJ.1 _ _ (np h6) h2,bJ.1 _ _ (np h7) h3,bJ.1 _ _ (np h8) h4,h5⟩
theorem ok_wbQ (F:Fun K "_law_web" "_law_web" qbD f fd) (T:Txt K mg cc cw) (kS:DefOk P w K mg base CX0 1 "_law_take" ["_law_state","_law_many"] spTake) (uP:MakeOk P w K mg base CX0 5 cw "Web" ["self","names","ties"] (spWeb cw)):FnOk P w K mg base CX0 7 f fd ["_law_state","_law_names_here","_law_ties"] (spWbQ cw):=by
 refine F.ok KF fun _ _ _ s H vs Q E hr h=>?_
 ·obtain ⟨p,ln,lt,ss,ts,TI,rfl,hB,n1,n2,hnm,hN,few,hI,hJ,q⟩:=h;have hu:=za hr;have h30:=hJ.1;refine ⟨_,(qc (qo (i:=3) KF.nd rfl (yJ rfl) (je qd))
 (qc (q9 yP rfl (ki_lst (K:=K) rfl (pv 2)) (qdg rfl (zD (qr (i:=4) KF.nd rfl (yJ rfl)) (zD (qr (i:=5) KF.nd rfl (yJ rfl)) qcl)))
 (qc (qo (i:=6) KF.nd rfl (yJ rfl) (ju (qa (qx (qy (K:=K) rfl hu) (pv 1) (pv 4) (fun _ _=>rfl)) (qa (qx (qy (K:=K) rfl hu) (pv 1) (pv 5) (fun _ _=>rfl)) qd))))
 (qf (qM (qbj (K:=K) rfl yN y8 y9 qO (pv 3) (qa (qx (qy (K:=K) rfl hu) (je (qa (pv 6) (qa (pe_rev (K:=K) rfl (pv 6) (jI (qaQ zx qg))) qd))) (qt kS (hmR hr) qF (qa (pv 0) (qa qg qd))) (fun _ _=>rfl)) qd))))))
 (qc (qP (qp (zX (K:=K) rfl hu) (qt kS (hmR hr) qF (qa (pv 0) (qa qg qd))) qg (qD _)) (qf (qm (qan uP (hmR hr) (qa (qY (qa0 (K:=K) rfl rfl) rfl T.b_list xN (qa (pv 1) qd)) (qa (qdC (K:=K) rfl (pv 3) (jI (qaQ zx qg))) qd))))) qv)
 (qf (qm (qan uP (hmR hr) (qa (qY (qaD (K:=K) rfl) rfl T.b_tuple Xx (qa (pv 1) qd)) (qa (qY (qaD (K:=K) rfl) rfl T.b_tuple Xx (qa (pv 3) qd)) qd)))))))),?_⟩
  ext;refine ⟨by decide,fun fl hfl=>?_⟩;have b0:=(BB.refl hB).new (o:=.lst []) hfl;have nf:=(BB.refl hB).apart hfl;have P0:PL (upd H fl (.lst [])) fl [] []:=⟨qb,.nil⟩;generalize upd H fl (.lst [])=H0 at b0 P0;ext;refine viLst ?_;ext;refine ⟨lt,_,rfl,.of (b0.1 _ _ n2 hI.1),jj (xs:=ts.map V.ref) (fun i σ J=>∃ (x4 x5 x6:Option V) (us:List Addr) (tps:List (Str×Str)),σ=[some (.ref p),some (.ref ln),some (.ref lt),some (.ref fl),x4,x5,x6]/\BB p H J/\PL J fl us tps/\All2 (NmP ss) (TI.take i) tps)
   ⟨none,none,none,[],[],rfl,b0,P0,by rw [X4];exact .nil⟩ (fun i σ J _ hp=>by obtain ⟨_,_,_,_,_,_,b,_⟩:=hp;exact .of (b.1 _ _ n2 hI.1)) (fun i y σ J hy hp=>?_) fun σ J hp=>?_⟩
  ·obtain ⟨x4,x5,x6,us,tps,rfl,bJ,hP,hA⟩:=hp;rw [yd] at hy;obtain ⟨t,ht,rfl⟩:=yn.mp hy;have hi:i < TI.length:=by rw [<- hI.2.len];exact (yc.mp ht).1
   obtain ⟨qq,hqq⟩:∃ q,TI[i]?=some q:=⟨_,yb hi⟩;have et:=bJ.tup hB (hI.2.at_ i t qq ht hqq);have htk:TI.take (i + 1)=TI.take i++[qq]:=by rw [yQ,hqq];rfl
   have hq:=hJ.2.1 qq (ye hqq);obtain ⟨sa,hsa⟩:∃ s,ss[qq.1]?=some s:=⟨_,yb (by omega)⟩;obtain ⟨sb,hsb⟩:∃ s,ss[qq.2]?=some s:=⟨_,yb (by omega)⟩;have hnJ:=bJ.1 _ _ n1 hnm;refine ⟨t,_,rfl,.of et,rfl,_,_,rfl,_,_,rfl,rfl,?_⟩;ext;refine .inl (zR hnJ (v:=.str sa) (qA (by rw [yd,hsa];rfl)) ?_);ext;refine .inl (zR hnJ (v:=.str sb) (qA (by rw [yd,hsb];rfl)) ?_);refine ⟨by show 2<=sizeLine;decide,fun t1 ht1=>?_⟩;have keepP:∀ {J J':Hp},L2.Same J J'->PL J fl us tps->PL J' fl us tps:=fun s h=>h.same s;have s1:=qL (Sr J) (o:=.tup [.str sa,.str sb]) ht1;have b1:=bJ.same s1;have hP1:=hP.same s1;have e1:upd J t1 (.tup [.str sa,.str sb]) t1=some (.tup [.str sa,.str sb]):=qb;generalize upd J t1 (.tup [.str sa,.str sb])=J1 at s1 b1 hP1 e1;ext;refine ⟨.inl ⟨rfl,_,SqL.of hP1.1⟩,?_⟩;ext;refine vU ?_;ext;refine ⟨rfl,t1,_,_,rfl,SqT.of e1,fun t2 ht2=>?_⟩;have s2:=qL (Sr J1) (o:=.tup [.str sb,.str sa]) ht2;have b2:=b1.same s2;have hP2:=hP1.same s2;replace e1:=s2 _ _ e1;have e2:upd J1 t2 (.tup [.str sb,.str sa]) t2=some (.tup [.str sb,.str sa]):=qb;generalize upd J1 t2 (.tup [.str sb,.str sa])=J2 at s2 b2 hP2 e1 e2;ext;refine ⟨by show 2<=sizeLine;decide,fun t3 ht3=>?_⟩;have s3:=qL (Sr J2) (o:=.lst [.ref t1,.ref t2]) ht3;have n3:=b2.apart ht3;have b3:=b2.same s3;have hP3:=hP2.same s3;replace e1:=s3 _ _ e1;replace e2:=s3 _ _ e2;have e3:upd J2 t3 (.lst [.ref t1,.ref t2]) t3=some (.lst [.ref t1,.ref t2]):=qb;generalize upd J2 t3 (.lst [.ref t1,.ref t2])=J3 at s3 b3 hP3 e1 e2 e3;ext;refine ⟨p,2,rfl,b3.2,by decide,by decide,fun r J4 r0 r1 b4=>?_⟩;have tup4:∀ {u:Addr} {xs:List V},J3 u=some (.tup xs)->J4 u=some (.tup xs):=fun z=>b4.tup b3.2 z;have hP4:PL J4 fl us tps:=⟨b4.1 _ _ nf hP3.1,hP3.2.mono fun u ab z=>tup4 z⟩;replace e1:=tup4 e1;replace e2:=tup4 e2;replace e3:=b4.1 _ _ n3 e3;replace b4:=b3.trans b4
   obtain ⟨tt,ab,hat,htt,hab⟩:∃ (tt:Addr) (ab:Str×Str),atI [V.ref t1,V.ref t2] r=some (.ref tt)/\J4 tt=some (.tup [.str ab.1,.str ab.2])/\NmP ss qq ab:=by
    have hr2:r=0\/r=1:=by omega
    rcases hr2 with rfl | rfl
    ·exact ⟨t1,(sa,sb),rfl,e1,.inl ⟨hsa,hsb⟩⟩
    ·exact ⟨t2,(sb,sa),rfl,e2,.inr ⟨hsa,hsb⟩⟩
   refine .inl (zR e3 hat ?_);refine ⟨fl,_,_,rfl,rfl,hP4.1,by rw [ya,hP4.2.len,<- hA.len,yR];exact qi (by omega),?_⟩;have hfl0:H fl=none:=hfl;have nt:∀ {u:Addr} {xs:List V},J4 u=some (.tup xs)->u≠fl:=fun z w=>by rw [w,hP4.1] at z;cases z
   refine ⟨_,_,_,us++[tt],tps++[ab],rfl,b4.put hfl0 nf,⟨by rw [qb,yG];rfl,(hP4.2.mono fun u cd z=>by rw [qe (nt z)];exact z).snoc (by rw [qe (nt htt)];exact htt)⟩,?_⟩;rw [htk];exact hA.snoc hab
  ·obtain ⟨x4,x5,x6,us,tps,rfl,bJ,hP,hA⟩:=hp;have e0:(ts.map V.ref).length=TI.length:=by rw [ya,hI.2.len]
   rw [e0,yV] at hA;obtain ⟨hg,hE⟩:=qfs hN.nd hJ hA;obtain ⟨hgr,hEr⟩:=qfs hN.nd hJ.rev hA.revQ;have hpl:tps.length<=30:=by rw [<- hA.len];exact h30
   ext;refine ⟨p,2,rfl,bJ.2,by decide,by decide,fun r J1 r0 r1 b1=>?_⟩;have hP1:PL J1 fl us tps:=⟨b1.1 _ _ nf hP.1,hP.2.mono fun u ab z=>b1.tup bJ.2 z⟩;replace b1:=bJ.trans b1;have hn1:=b1.1 _ _ n1 hnm;ext;refine qa9 ?_;ext;refine qU (fun h1=>?_) fun h1=>?_
   ·ext;refine .inl ⟨ln,_,rfl,.inl (SqL.of hn1),fun l2 hl2=>?_⟩;have s2:=qL (Sr J1) (o:=.lst (ss.map V.str)) hl2;have e2:upd J1 l2 (.lst (ss.map V.str)) l2=some (.lst (ss.map V.str)):=qb;have b2:=b1.same s2;have hP2:=hP1.same s2;generalize upd J1 l2 (.lst (ss.map V.str))=J2 at s2 e2 b2 hP2;ext;refine qfJ ?_;ext;refine vU ?_;ext;refine ⟨rfl,fl,_,rfl,SqL.of hP2.1,fun l3 hl3=>?_⟩;have s3:=qL (Sr J2) (o:=.lst (us.map V.ref).reverse) hl3;have e3:upd J2 l3 (.lst (us.map V.ref).reverse) l3=some (.lst (us.reverse.map V.ref)):=by rw [qb,kB]
    replace e2:=s3 _ _ e2;have hP3:=hP2.same s3;replace b2:=b2.same s3;generalize upd J2 l3 (.lst (us.map V.ref).reverse)=J3 at s3 e2 e3 b2 hP3;ext;intro x dx hx hdx hne;refine qeA (p:=p) (.inl e2) hN ⟨.inl e3,hP3.2.revQ⟩ hgr hx hdx hne b2.2 fun ns H2 sH W hst=>⟨rfl,?_⟩;exact q x ns _ H2 (b2.same sH) W hst hEr.rev
   ·ext;refine ⟨ln,_,rfl,.inl ⟨SqL.of hn1,fun l2 hl2=>?_⟩⟩;have s2:=qL (Sr J1) (o:=.tup (ss.map V.str)) hl2;have e2:upd J1 l2 (.tup (ss.map V.str)) l2=some (.tup (ss.map V.str)):=qb;have b2:=b1.same s2;have hP2:=hP1.same s2;generalize upd J1 l2 (.tup (ss.map V.str))=J2 at s2 e2 b2 hP2;ext;refine ⟨fl,_,rfl,.inl ⟨SqL.of hP2.1,fun l3 hl3=>?_⟩⟩;have s3:=qL (Sr J2) (o:=.tup (us.map V.ref)) hl3;have e3:upd J2 l3 (.tup (us.map V.ref)) l3=some (.tup (us.map V.ref)):=qb;replace e2:=s3 _ _ e2;have hP3:=hP2.same s3;replace b2:=b2.same s3;generalize upd J2 l3 (.tup (us.map V.ref))=J3 at s3 e2 e3 b2 hP3;ext;intro x dx hx hdx hne;refine qeA (p:=p) (.inr e2) hN ⟨.inr e3,hP3.2⟩ hg hx hdx hne b2.2 fun ns H2 sH W hst=>⟨rfl,?_⟩;exact q x ns _ H2 (b2.same sH) W hst hE
theorem KH:FnScope ["_law_size","_law_ties","_law_found","_law_k"] ["_law_size","_law_ties"] (qh zh):=fS
theorem ipl_in {a:Addr} {TI:List (Nat×Nat)} {Q:VK} (h:IPL H l ts TI) (ha:H a=some (iT q0)) (q:Q (.bl (decide (q0∈TI))) H):qd2 K false (.ref a) (.ref l) H Q:=by
 classical
 refine .inr (.inr ⟨l,ts.map V.ref,fun z=>decide (∃ t,z=.ref t/\H t=some (iT q0)),1,rfl,SqL.of h.1,by decide,fun z hz=>?_,?_⟩)
 ·obtain ⟨b,hb,rfl⟩:=Yd.mp hz;obtain ⟨q',_,r⟩:=h.2.mem hb;have e:=qch (K:=K) r ha
  have ee:decide (∃ t,V.ref b=.ref t/\H t=some (iT q0))=decide (q'=q0):=by
   apply Ys.mpr;constructor
   ·rintro ⟨t,e1,e2⟩;cases e1;rw [r] at e2;exact qcg e2
   ·rintro rfl;exact ⟨b,rfl,r⟩
  show EqD K H 1 (.ref b) (.ref a) (decide (∃ t,V.ref b=.ref t/\H t=some (iT q0)));rw [ee];exact e
 ·have e:((ts.map V.ref).any fun z=>decide (∃ t,z=.ref t/\H t=some (iT q0)))=decide (q0∈TI):=by
   rw [Yq,Yn,yY];constructor
   ·rintro ⟨z,hz,e⟩;obtain ⟨t,ht,rfl⟩:=Yd.mp hz;obtain ⟨q',hq',r⟩:=h.2.mem ht;obtain ⟨t',e1,e2⟩:=yk e;cases e1;rw [r] at e2;have:q'=q0:=qcg e2;rw [<- this];exact hq'
   ·intro hm;obtain ⟨k,hk,e⟩:=xv hm;have hk':k < ts.length:=by rw [h.2.len];exact hk
    have r:=h.2.at_ k ts[k] TI[k] (yb hk') (yb hk);exact ⟨.ref ts[k],Yd.mpr ⟨_,YO hk',rfl⟩,yI ⟨ts[k],rfl,by rw [r,e]⟩⟩
  rw [yy (by decide),e];exact q
noncomputable def nbQ (TI:List (Nat×Nat)) (n k:Nat):List Nat:=(List.range n).filter fun j=>decide ((min j k,max j k)∈TI)
theorem qc9 {TI:List (Nat×Nat)} {k:Nat} (h:j∈nbQ TI n k):j < n:=YI.mp (yp.mp h).1
theorem nbQ_len (TI:List (Nat×Nat)) (n k:Nat):(nbQ TI n k).length<=n:=yi (yW _ _) (by rw [Yo];exact yh _)
noncomputable def BsL (H:Hp) (l:Addr) (ls:List Addr) (TI:List (Nat×Nat)) (n:Nat):Prop:=H l=some (.lst (ls.map V.ref))/\All2 (fun a k=>H a=some (.lst ((nbQ TI n k).map iV))) ls (List.range n)
theorem BsL.same {ls:List Addr} {TI:List (Nat×Nat)} (h:BsL H l ls TI n) (s:L2.Same H H'):BsL H' l ls TI n:=⟨s _ _ h.1,h.2.mono fun _ _ z=>s _ _ z⟩
inductive spBsQ (vs:List V) (H:Hp) (Q:VK) (E:XK):Prop|mk (lt:Addr) (n:Nat) (ts:List Addr) (TI:List (Nat×Nat)) (_:vs=[.int (n:Int),.ref lt]) (_:n<=7) (_:IPL H lt ts TI) (_:∀ (l:Addr) (ls:List Addr) (H':Hp),L2.Same H H'->BsL H' l ls TI n->Q (.ref l) H')
theorem ok_bsQ (F:Fun K "_law_beside" "_law_beside" zh f fd) (T:Txt K mg cc cw):FnOk P w K mg base CX0 1 f fd ["_law_size","_law_ties"] spBsQ:=by
 refine F.ok KH fun _ _ _ _ H vs Q E hr h=>?_
 ·obtain ⟨lt,n,ts,TI,rfl,n7,hI,q⟩:=h;have hu:=za hr;refine ⟨_,(qc (qo (i:=2) KH.nd rfl (yJ rfl) (je qd))
 (qc (q9 yP rfl (qQ rfl T.b_range (qa (pv 0) qd)) (qr (i:=3) KH.nd rfl (X2 rfl))
 (qf (qM (qbj (K:=K) rfl yN y8 y9 qO (pv 2) (qa (jw (sc:=qh zh) (XN:=["_law_size","_law_ties","_law_found","_law_k"]) ["_law_j","_law_ties","_law_k"] 1 [1,3] rfl rfl rfl (by decide +kernel) rfl (by decide +kernel)
  (qQ rfl T.b_range (qa (pv 0) qd)) (fun _ _ _ _=>(qr (i:=0) (show (["_law_j","_law_ties","_law_k"]:List Str).Nodup by decide +kernel) rfl (yJ rfl))) ji
  (fun _ _ _ _=>(jO (qp (zW (K:=K) rfl hu) (ju (qa (qk (qad rfl) rfl T.b_min boot_min (qa (pv 0) (qa (pv 2) qd))) (qa (qk (qac rfl) rfl T.b_max boot_max (qa (pv 0) (qa (pv 2) qd))) qd))) (pv 1) (by with_unfolding_all rfl))))
  (fun _ _ _ _=>(pv 0))) qd)))))
 (qf (qm (pv 2))))),?_⟩
  ext;refine ⟨by decide,fun l hl=>?_⟩;have s0:=qL (Sr H) (o:=.lst []) hl;have e0:upd H l (.lst []) l=some (.lst []):=qb;generalize upd H l (.lst [])=H0 at s0 e0;ext;refine ⟨_,rfl,by omega,by omega,jl (fun i σ J=>∃ (x3:Option V) (ls:List Addr),σ=[some (.int (n:Int)),some (.ref lt),some (.ref l),x3]/\L2.Same H J/\J l=some (.lst (ls.map V.ref))/\All2 (fun a k=>J a=some (.lst ((nbQ TI n k).map iV))/\a≠l) ls (List.range i))
   ⟨none,[],rfl,s0,e0,.nil⟩ (fun i σ J hi hp=>?_) fun σ J hp=>?_⟩
  ·obtain ⟨x3,ls,rfl,sJ,el,hA⟩:=hp;have hin:i < n:=by omega
   ext;refine ⟨.inl ⟨rfl,_,SqL.of el⟩,?_⟩;ext;refine ⟨_,rfl,by omega,by omega,jT (lo:=0) (fun j ys G=>L2.Same J G/\ys=(((List.range j).filter fun j=>decide ((min j i,max j i)∈TI)).map iV)) ⟨L2.Same.refl J,rfl⟩ (fun j ys G hj hs=>?_) fun ys G hs=>?_⟩
   ·obtain ⟨sG,rfl⟩:=hs;have ej:(0:Int) + (j:Int)=(j:Int):=xL _;have ei:(0:Int) + (i:Int)=(i:Int):=xL _;ext;refine ⟨_,_,rfl,?_⟩;ext;refine ⟨_,_,rfl,?_⟩;rw [ej,ei];have z1:(if (i:Int) < (j:Int) then (i:Int) else (j:Int))=((min j i:Nat):Int):=by split<;>omega
    have z2:(if (i:Int) > (j:Int) then (i:Int) else (j:Int))=((max j i:Nat):Int):=by split<;>omega
    rw [z1];ext;rw [z2];refine ⟨by show 2<=sizeLine;decide,fun t ht=>?_⟩;have s2:=qL sG (o:=iT (min j i,max j i)) ht;have et:upd G t (iT (min j i,max j i)) t=some (iT (min j i,max j i)):=qb;have eu:upd G t (.tup [.int ((min j i:Nat):Int),.int ((max j i:Nat):Int)])=upd G t (iT (min j i,max j i)):=rfl;rw [eu];generalize upd G t (iT (min j i,max j i))=G2 at s2 et;ext;refine ipl_in (hI.same (sJ.trans s2)) et ?_;ext
    have hst:(List.range (j + 1)).filter (fun j=>decide ((min j i,max j i)∈TI))=(List.range j).filter (fun j=>decide ((min j i,max j i)∈TI))++(if (min j i,max j i)∈TI then [j] else []):=by
     rw [Xe,Yp,yU,YK];simp only [xU]
    have hlen:((List.range j).filter (fun j=>decide ((min j i,max j i)∈TI))).length<=j:=yi (yW _ _) (by rw [Yo];exact yh _);rw [hst];refine qU (fun h=>?_) fun h=>?_
    ·rw [yE (yk h)];ext;exact ⟨by rw [ya];exact qi (by omega),s2,by rw [yG];rfl⟩
    ·rw [yy (fun z=>h (yI z)),Yr];exact ⟨s2,rfl⟩
   ·obtain ⟨sG,rfl⟩:=hs;have hlen:((List.range ((n:Int)).toNat).filter (fun j=>decide ((min j i,max j i)∈TI))).length<=n:=yi (yW _ _) (by rw [Yo,Yb];exact yh _);refine ⟨by rw [ya];exact yZ (qi (by omega)),fun m hm=>?_⟩;rw [Yb];have sJ2:=qL sG (o:=.lst ((nbQ TI n i).map iV)) hm;have em:upd G m (.lst ((nbQ TI n i).map iV)) m=some (.lst ((nbQ TI n i).map iV)):=qb;have eu:upd G m (.lst (((List.range n).filter fun j=>decide ((min j i,max j i)∈TI)).map iV))=upd G m (.lst ((nbQ TI n i).map iV)):=rfl;rw [eu];generalize upd G m (.lst ((nbQ TI n i).map iV))=G2 at sJ2 em;have el2:=sJ2 _ _ el;have nml:m≠l:=fun z=>by rw [z] at hm;rw [sG _ _ el] at hm;cases hm
    refine ⟨l,_,_,rfl,rfl,el2,by rw [ya,hA.len,Yo];exact qi (by omega),?_⟩;refine ⟨_,ls++[m],rfl,qaa (sJ.trans sJ2) hl,by rw [qb,yG];rfl,?_⟩;rw [Xe];exact (hA.mono fun a k z=>⟨by rw [qe z.2];exact sJ2 _ _ z.1,z.2⟩).snoc ⟨by rw [qe nml];exact em,nml⟩
  ·obtain ⟨x3,ls,rfl,sJ,el,hA⟩:=hp;ext;exact q l ls J sJ ⟨el,hA.mono fun _ _ z=>z.1⟩
theorem Kh:FnScope ["_law_beside_here","_law_many","_law_wins","_law_bits","_law_at","_law_free"] ["_law_beside_here"] (qh jV):=fS
noncomputable def wF (nb:Nat->List Nat):Nat->Nat->Nat->Bool
 | 0,_,_=>false
 | f + 1,b,a=>(nb a).any fun k=>!(b.testBit k)&&!(wF nb f (b ||| 2 ^ k) k)
theorem qed {b k:Nat} (h:b.testBit k=false):b < b ||| 2 ^ k:=by
 rcases Nat.lt_or_ge b (b ||| 2 ^ k) with z | z
 ·exact z
 ·have h1:=Nat.left_le_or (n:=b) (m:=2 ^ k);have e:b ||| 2 ^ k=b:=by omega
  have:=congrArg (fun x=>x.testBit k) e;simp [h] at this
theorem qee {b k:Nat} (h:b < 2 ^ n) (hk:k < n):b ||| 2 ^ k < 2 ^ n:=ke h (xp (by decide) hk)
theorem qeU (hn:∀ a,∀ k∈nb a,k < n):∀ (f g b a:Nat),b < 2 ^ n->2 ^ n - b<=f->2 ^ n - b<=g->wF nb f b a=wF nb g b a
 | 0,g,b,a,h,h1,_=>by omega
 | f + 1,0,b,a,h,_,h2=>by omega
 | f + 1,g + 1,b,a,h,h1,h2=>by
  unfold wF;rw [Yq,Yn,Yn]
  have key:∀ k∈nb a,(!(b.testBit k)&&!(wF nb f (b ||| 2 ^ k) k))=(!(b.testBit k)&&!(wF nb g (b ||| 2 ^ k) k)):=fun k hk=>by
   cases e:b.testBit k with
   | true=>rfl
   | false =>
    have g1:=qed e;rw [qeU hn f g (b ||| 2 ^ k) k (qee h (hn a k hk)) (by omega) (by omega)]
  exact ⟨fun ⟨k,hk,e⟩=>⟨k,hk,by rw [<- key k hk];exact e⟩,fun ⟨k,hk,e⟩=>⟨k,hk,by rw [key k hk];exact e⟩⟩
noncomputable def wQ (nb:Nat->List Nat) (n b a:Nat):Bool:=wF nb (2 ^ n) b a
theorem qft (hn:∀ a,∀ k∈nb a,k < n) {b a:Nat} (h0:0 < b) (h:b < 2 ^ n):wQ nb n b a=(nb a).any fun k=>!(b.testBit k)&&!(wQ nb n (b ||| 2 ^ k) k):=by
 have e:wQ nb n b a=wF nb (2 ^ n - 1 + 1) b a:=qeU hn _ _ b a h (by omega) (by omega);rw [e];show ((nb a).any fun k=>!(b.testBit k)&&!(wF nb (2 ^ n - 1) (b ||| 2 ^ k) k))=_
 have key:∀ k∈nb a,(!(b.testBit k)&&!(wF nb (2 ^ n - 1) (b ||| 2 ^ k) k))=(!(b.testBit k)&&!(wQ nb n (b ||| 2 ^ k) k)):=fun k hk=>by
  cases e:b.testBit k with
  | true=>rfl
  | false =>
   have g1:=qed e;have e2:wF nb (2 ^ n - 1) (b ||| 2 ^ k) k=wQ nb n (b ||| 2 ^ k) k:=qeU hn _ _ _ k (qee h (hn a k hk)) (by omega) (by omega);rw [e2]
 rw [Yq,Yn,Yn];exact ⟨fun ⟨k,hk,e⟩=>⟨k,hk,by rw [<- key k hk];exact e⟩,fun ⟨k,hk,e⟩=>⟨k,hk,by rw [key k hk];exact e⟩⟩
noncomputable abbrev kT (b a:Nat):List Key:=[Sum.inl (b:Int),Sum.inl (a:Int)]
theorem kT_inj {b a c d:Nat}:kT b a=kT c d↔b=c/\a=d:=by
 constructor
 ·intro e
  injection e with e1 e2
  injection e1 with e1
  injection e2 with e2 _
  injection e2 with e2
  omega
 ·rintro ⟨rfl,rfl⟩;rfl
noncomputable def SvD (nb:Nat->List Nat) (n:Nat) (kvs:List (List Key×V)) (m j:Nat):Prop:=∀ b a,0 < b->b < 2 ^ n->a < n->b.testBit a=true->(m < b\/(b=m/\a < j))->jJ kvs (kT b a)=some (.bl (wQ nb n b a))
theorem SvD.put (h:SvD nb n kvs m j):SvD nb n (j9 kvs (kT m j) (.bl (wQ nb n m j))) m (j + 1):=fun b a h0 h1 h2 h3 h4=>by
 rw [qaf];by_cases e:kT b a=kT m j
 ·obtain ⟨rfl,rfl⟩:=kT_inj.mp e;rw [yE rfl]
 ·rw [yy e];refine h b a h0 h1 h2 h3 ?_;rcases h4 with z | ⟨z1,z2⟩
  ·exact .inl z
  ·refine .inr ⟨z1,?_⟩;have:a≠j:=fun z=>e (kT_inj.mpr ⟨z1,z⟩);omega
theorem SvD.skip (h:SvD nb n kvs m j) (hb:m.testBit j=false):SvD nb n kvs m (j + 1):=fun b a h0 h1 h2 h3 h4=>by
 refine h b a h0 h1 h2 h3 ?_;rcases h4 with z | ⟨z1,z2⟩
 ·exact .inl z
 ·refine .inr ⟨z1,?_⟩;have:a≠j:=fun z=>by rw [z,z1] at h3;rw [h3] at hb;cases hb
  omega
theorem SvD.next (h:SvD nb n kvs (m + 1) n):SvD nb n kvs m 0:=fun b a h0 h1 h2 h3 h4=>by
 refine h b a h0 h1 h2 h3 ?_;rcases h4 with z | ⟨_,z⟩
 ·by_cases e:b=m + 1
  ·exact .inr ⟨e,h2⟩
  ·exact .inl (by omega)
 ·omega
inductive spSvQ (vs:List V) (H:Hp) (Q:VK) (E:XK):Prop|mk (lb:Addr) (ls:List Addr) (TI:List (Nat×Nat)) (n:Nat) (_:vs=[.ref lb]) (_:BsL H lb ls TI n) (_:n<=7) (_:∀ (d:Addr) (kvs:List (List Key×V)) (H':Hp),L2.Same H H'->H' d=some (.dT kvs)->SvD (nbQ TI n) n kvs 0 0->Q (.ref d) H')
theorem bit_not (m j:Nat):decide (Builtin.bitAnd ((m:Int) / 2 ^ (j:Int).toNat) 1=0)=!m.testBit j:=by
 rw [PyProof.Rows.bitAnd_m1,Nat.testBit_eq_decide_div_mod_eq];rw [Yb];have e:(m:Int) / 2 ^ j=((m / 2 ^ j:Nat):Int):=by rw [Int.natCast_ediv,Xc];rfl
 rw [e];generalize m / 2 ^ j=x;rw [Yq,xV,yY,Xj];omega
theorem ne_nilI {z:Addr} {xs:List Nat} {Q:VK} (hl:H l=some (.lst (xs.map iV))) (hz:H z=some (.lst [])) (q:Q (.bl (!xs.isEmpty)) H):qeq K true (.ref l) (.ref z) H Q:=by
 cases xs with
 | nil=>exact .inr (.inl ⟨l,z,true,1,rfl,rfl,by decide,EqT.lst (n:=0) (e:=fun _=>true) (SqL.of hl) (SqL.of hz) rfl fun j x y h=>by (simp at h),q⟩)
 | cons x r=>exact .inr (.inl ⟨l,z,false,1,rfl,rfl,by decide,EqT.lstL (SqL.of hl) (SqL.of hz) (by simp),q⟩)
theorem ok_svQ (F:Fun K "_law_solved" "_law_solved" jV f fd) (T:Txt K mg cc cw):FnOk P w K mg base CX0 1 f fd ["_law_beside_here"] spSvQ:=by
 refine F.ok Kh fun _ _ _ _ H vs Q E hr h=>?_
 ·obtain ⟨lb,ls,TI,n,rfl,hB,n7,q⟩:=h;have hu:=za hr;have hll:ls.length=n:=by rw [hB.2.len,Yo]
  have p7:2 ^ n<=128:=Nat.pow_le_pow_right (by decide) n7;have p0:0 < 2 ^ n:=Xd n;refine ⟨_,(qc (qo (i:=1) Kh.nd rfl (yJ rfl) (qk (zr (K:=K) rfl) rfl T.b_len Y0 (qa (pv 0) qd)))
 (qc (qo (i:=2) Kh.nd rfl (X2 rfl) pe_dnewT)
 (qc (q9 yP rfl (pi_down rfl T.b_range (qa (qC qay (qC qbO qg (pv 1)) qg) (qa qg (qa (qaQ zx qg) qd)))) (qr (i:=3) Kh.nd rfl (X2 rfl))
 (qf (q9 yP rfl (qQ rfl T.b_range (qa (pv 1) qd)) (qr (i:=4) Kh.nd rfl (yJ rfl))
 (qf (qP (qp (zX (K:=K) rfl hu) (qC qdi (qC qdh (pv 3) (pv 4)) qg) qg (qD _)) (qc (qbr (sc:=qh jV) (XN:=["_law_beside_here","_law_many","_law_wins","_law_bits","_law_at","_law_free"]) ["_law_k","_law_bits"] 1 [3] rfl rfl rfl (by decide +kernel) rfl (by decide +kernel) (i:=5) Kh.nd rfl rfl
  (jg (K:=K) rfl (qx (qy (K:=K) rfl hu) (pv 0) (pv 4) (fun _ _=>rfl))) (fun _ _ _ _=>(qr (i:=0) (show (["_law_k","_law_bits"]:List Str).Nodup by decide +kernel) rfl (yJ rfl))) ji
  (fun _ _ _ _=>(jO (qp (zX (K:=K) rfl hu) (qC qdi (qC qdh (pv 1) (pv 0)) qg) qg (qD _))))
  (fun _ _ _ _=>(pv 0)))
 (qf (jG (jC (qaB (K:=K) rfl hu) (jw (sc:=qh jV) (XN:=["_law_beside_here","_law_many","_law_wins","_law_bits","_law_at","_law_free"]) ["_law_k","_law_wins","_law_bits"] 1 [2,3] rfl rfl rfl (by decide +kernel) rfl (by decide +kernel)
  (jg (K:=K) rfl (pv 5)) (fun _ _ _ _=>(qr (i:=0) (show (["_law_k","_law_wins","_law_bits"]:List Str).Nodup by decide +kernel) rfl (yJ rfl))) ji
  (fun _ _ _ _=>(jO (jd (qX (qx (qy (K:=K) rfl hu) (pv 1) (ju (qa (qC qeF (pv 2) (qC qbO qg (pv 0))) (qa (pv 0) qd))) (fun _ _=>rfl))))))
  (fun _ _ _ _=>(pv 0))) (je qd) (qD _)) (jL (pv 2) (ju (qa (pv 3) (qa (pv 4) qd))) (jM hu))))) qv)))))
 (qf (qm (pv 2)))))),?_⟩
  ext;refine zU (SqL.of hB.1) ?_;rw [ya,hll];ext;intro d hd;have s0:=qL (Sr H) (o:=.dT []) hd;have e0:upd H d (.dT []) d=some (.dT []):=qb;generalize upd H d (.dT [])=H0 at s0 e0;ext;refine vDown ?_;ext;refine vI ⟨by omega,by omega,by decide⟩ ?_;ext;refine vU ?_;ext
  have eN:(1 * 2 ^ ((n:Int)).toNat - 1:Int)=((2 ^ n - 1:Nat):Int):=by
   rw [Yb,Int.one_mul];have:((2 ^ n:Nat):Int)=(2:Int) ^ n:=by rw [Xc];rfl
   omega
  generalize hN:2 ^ n - 1=N at eN;refine ⟨N,by rw [eN],by omega,for_down (fun i σ J=>∃ (x3 x4 x5:Option V) (kvs:List (List Key×V)),σ=[some (.ref lb),some (.int (n:Int)),some (.ref d),x3,x4,x5]/\L2.Same H J/\J d=some (.dT kvs)/\SvD (nbQ TI n) n kvs (N - i) 0/\kvs.length<=7 * i)
   ⟨none,none,none,[],rfl,s0,e0,fun b a h0 h1 h2 h3 h4=>by omega,yh _⟩ (fun i σ J hi hp=>?_) fun σ J hp=>?_⟩
  ·obtain ⟨x3,x4,x5,kvs,rfl,sJ,eJ,hS,hlen⟩:=hp;obtain ⟨m,hm⟩:∃ m,N - i=m:=⟨_,rfl⟩;have hm1:0 < m:=by omega
   have hm2:m < 2 ^ n:=by omega
   have em:(N:Int) - (i:Int)=(m:Int):=by omega
   rw [em];rw [hm] at hS;ext;refine ⟨_,rfl,by omega,by omega,jl (fun j σ J=>∃ (x4 x5:Option V) (kvs:List (List Key×V)),σ=[some (.ref lb),some (.int (n:Int)),some (.ref d),some (.int (m:Int)),x4,x5]/\L2.Same H J/\J d=some (.dT kvs)/\SvD (nbQ TI n) n kvs m j/\kvs.length<=7 * i + j)
    ⟨_,_,kvs,rfl,sJ,eJ,hS,by omega⟩ (fun j σ J hj hp=>?_) fun σ J hp=>?_⟩
   ·obtain ⟨x4,x5,kvs,rfl,sJ,eJ,hS,hlen⟩:=hp;have hjn:j < n:=by omega
    rw [xL];ext;refine vI (by omega) ?_;ext;refine qa9 ?_;rw [qbx];ext;refine qU (fun hb=>?_) fun hb=>⟨_,_,kvs,rfl,sJ,eJ,hS.skip (by simpa using hb),by omega⟩;have hBJ:=hB.same sJ;obtain ⟨la,hla⟩:∃ a,ls[j]?=some a:=⟨_,yb (by omega)⟩;have ela:=hBJ.2.at_ j la j hla (XU hjn);generalize hNB:nbQ TI n j=NB at ela;have hNl:NB.length<=7:=by rw [<- hNB];exact yi (nbQ_len _ _ _) n7
    have hNlt:∀ k∈NB,k < n:=fun k hk=>qc9 (by rw [hNB];exact hk);ext;refine .inl (zR hBJ.1 (v:=.ref la) (qA (by rw [yd,hla];rfl)) ?_);refine .inl ⟨⟨_,.of ela⟩,jo (xs:=NB.map iV) (fun k ys G=>G=J/\ys=((NB.take k).filter fun k=>!m.testBit k).map iV) ⟨rfl,rfl⟩ (fun k ys G _ hp'=>by rw [hp'.1];exact .of ela) (fun k y ys G hy hp'=>?_) fun ys G hp'=>?_⟩
    ·obtain ⟨rfl,rfl⟩:=hp';rw [yd] at hy;obtain ⟨v,hv,rfl⟩:=yn.mp hy;have hkl:k < NB.length:=(yc.mp hv).1
     have hst:(NB.take (k + 1)).filter (fun k=>!m.testBit k)=(NB.take k).filter (fun k=>!m.testBit k)++(if (!m.testBit v)=true then [v] else []):=by
      rw [yQ,hv,Yp];show _++[v].filter _=_;rw [yU,YK]
     have hfl:((NB.take k).filter (fun k=>!m.testBit k)).length<=k:=yi (yW _ _) (by rw [yR];omega);ext;refine vI (by show (0:Int)<=(v:Int);omega) ?_;ext;refine qa9 ?_;rw [bit_not,hst];ext;refine qU (fun h=>?_) fun h=>?_
     ·rw [yE h];ext;exact ⟨by rw [ya];exact qi (by omega),rfl,by rw [yG];rfl⟩
     ·rw [yy h,Yr];exact ⟨rfl,rfl⟩
    ·obtain ⟨rfl,rfl⟩:=hp';have e1:(NB.map iV).length=NB.length:=ya _;rw [e1,yV];generalize hFR:NB.filter (fun k=>!m.testBit k)=FR;have hFl:FR.length<=7:=by rw [<- hFR];exact yi (yW _ _) hNl
     have hFm:∀ k∈FR,k < n/\m.testBit k=false:=fun k hk=>by
      rw [<- hFR] at hk;obtain ⟨z1,z2⟩:=yp.mp hk;exact ⟨hNlt k z1,by simpa using z2⟩
     refine ⟨by rw [ya];exact yZ (qi (by omega)),fun fr hfr=>?_⟩;have s2:=qL (Sr G) (o:=.lst (FR.map iV)) hfr;have efr:upd G fr (.lst (FR.map iV)) fr=some (.lst (FR.map iV)):=qb;generalize upd G fr (.lst (FR.map iV))=J2 at s2 efr;have sJ2:=sJ.trans s2;have eJ2:=s2 _ _ eJ;ext;refine .inl ⟨⟨_,.of efr⟩,jo (xs:=FR.map iV) (fun k ys G=>L2.Same J2 G/\ys=((FR.take k).filter fun k=>!wQ (nbQ TI n) n (m ||| 2 ^ k) k).map iV) ⟨L2.Same.refl J2,rfl⟩ (fun k ys G _ hp'=>.of (hp'.1 _ _ efr)) (fun k y ys G hy hp'=>?_) fun ys G hp'=>?_⟩
     ·obtain ⟨sG,rfl⟩:=hp';rw [yd] at hy;obtain ⟨v,hv,rfl⟩:=yn.mp hy;have hkl:k < FR.length:=(yc.mp hv).1;obtain ⟨v1,v2⟩:=hFm v (ye hv)
      have hst:(FR.take (k + 1)).filter (fun k=>!wQ (nbQ TI n) n (m ||| 2 ^ k) k)=(FR.take k).filter (fun k=>!wQ (nbQ TI n) n (m ||| 2 ^ k) k)++(if (!wQ (nbQ TI n) n (m ||| 2 ^ v) v)=true then [v] else []):=by
       rw [yQ,hv,Yp];show _++[v].filter _=_;rw [yU,YK]
      have hfl:((FR.take k).filter (fun k=>!wQ (nbQ TI n) n (m ||| 2 ^ k) k)).length<=k:=yi (yW _ _) (by rw [yR];omega);ext;refine vI ⟨by show (0:Int)<=(v:Int);omega,by show (v:Int)<=1000000;omega,by decide⟩ ?_;ext;rw [qdG];refine ⟨by show 2<=sizeLine;decide,fun t ht=>?_⟩;have s3:=qL sG (o:=.tup [.int ((m ||| 2 ^ v:Nat):Int),.int (v:Int)]) ht;have et:upd G t (.tup [.int ((m ||| 2 ^ v:Nat):Int),.int (v:Int)]) t=some (.tup ((kT (m ||| 2 ^ v) v).map kV)):=qb;generalize upd G t (.tup [.int ((m ||| 2 ^ v:Nat):Int),.int (v:Int)])=G2 at s3 et;have gt:=qed v2;have hval:=hS (m ||| 2 ^ v) v (by omega) (qee hm2 v1) v1 (by rw [X3,Nat.testBit_two_pow_self,Bool.or_true]) (.inl gt);have dg:=DGet.t (k:=kT (m ||| 2 ^ v) v) (s3 _ _ eJ2) et;rw [hval] at dg;refine .inr ⟨d,_,rfl,dg,?_⟩;rw [hst];ext;refine qU (fun h=>?_) fun h=>?_
      ·rw [yE h];ext;exact ⟨by rw [ya];exact qi (by omega),s3,by rw [yG];rfl⟩
      ·rw [yy h,Yr];exact ⟨s3,rfl⟩
     ·obtain ⟨sG,rfl⟩:=hp';have e2:(FR.map iV).length=FR.length:=ya _;rw [e2,yV]
      have hval:(!(FR.filter fun k=>!wQ (nbQ TI n) n (m ||| 2 ^ k) k).isEmpty)=wQ (nbQ TI n) n m j:=by
       rw [qft (fun a k hk=>qc9 hk) hm1 hm2,hNB,<- hFR,Yq,xV,Yn];constructor
       ·intro h
        cases e:(NB.filter fun k=>!m.testBit k).filter fun k=>!wQ (nbQ TI n) n (m ||| 2 ^ k) k with
        | nil=>rw [e] at h;cases h
        | cons k r =>
         have hk:k∈(NB.filter fun k=>!m.testBit k).filter fun k=>!wQ (nbQ TI n) n (m ||| 2 ^ k) k:=by rw [e];exact yL
         obtain ⟨z1,z2⟩:=yp.mp hk;obtain ⟨z3,z4⟩:=yp.mp z1;exact ⟨k,z3,by rw [z4,z2];rfl⟩
       ·rintro ⟨k,hk,e⟩;obtain ⟨z1,z2⟩:=(yT _ _).mp e;have hm:k∈(NB.filter fun k=>!m.testBit k).filter fun k=>!wQ (nbQ TI n) n (m ||| 2 ^ k) k:=yp.mpr ⟨yp.mpr ⟨hk,z1⟩,z2⟩
        cases e:(NB.filter fun k=>!m.testBit k).filter fun k=>!wQ (nbQ TI n) n (m ||| 2 ^ k) k with
        | nil=>rw [e] at hm;cases hm
        | cons k r=>rfl
      have hLl:(FR.filter fun k=>!wQ (nbQ TI n) n (m ||| 2 ^ k) k).length<=7:=yi (yW _ _) hFl;generalize (FR.filter fun k=>!wQ (nbQ TI n) n (m ||| 2 ^ k) k)=LL at hval hLl;refine ⟨by rw [ya];exact yZ (qi (by omega)),fun l3 hl3=>?_⟩;have s4:=qL sG (o:=.lst (LL.map iV)) hl3;have e3:upd G l3 (.lst (LL.map iV)) l3=some (.lst (LL.map iV)):=qb;generalize upd G l3 (.lst (LL.map iV))=G3 at s4 e3;ext;refine ⟨by decide,fun l4 hl4=>?_⟩;have s5:=qL (Sr G3) (o:=.lst []) hl4;have e4:upd G3 l4 (.lst []) l4=some (.lst []):=qb;replace e3:=s5 _ _ e3;generalize upd G3 l4 (.lst [])=G4 at s5 e3 e4;ext;refine ne_nilI e3 e4 ?_;rw [hval];ext;refine ⟨by show 2<=sizeLine;decide,fun t ht=>?_⟩;have s6:=qL s5 (o:=.tup [.int (m:Int),.int (j:Int)]) ht;have et:upd G4 t (.tup [.int (m:Int),.int (j:Int)]) t=some (.tup ((kT m j).map kV)):=qb;generalize upd G4 t (.tup [.int (m:Int),.int (j:Int)])=G5 at s6 et;have sA:=(sJ2.trans s4).trans s6;have eJ5:=(s4.trans s6) _ _ eJ2;refine .inr ⟨d,_,rfl,DPut.t (k:=kT m j) eJ5 et (qi (by omega)),?_⟩;refine ⟨_,_,_,rfl,qaa sA hd,qb,hS.put,?_⟩;have:=jt kvs (kT m j) (.bl (wQ (nbQ TI n) n m j));omega
   ·obtain ⟨x4,x5,kvs,rfl,sJ,eJ,hS,hlen⟩:=hp;rw [Yb] at hS hlen;refine ⟨_,_,_,kvs,rfl,sJ,eJ,?_,by omega⟩;have e:N - (i + 1) + 1=m:=by omega
    rw [<- e] at hS;exact hS.next
  ·obtain ⟨x3,x4,x5,kvs,rfl,sJ,eJ,hS,hlen⟩:=hp;ext;rw [Xr] at hS;exact q d kvs J sJ eJ hS
section
variable {tps:List (Str×Str)}
theorem qdX (hi:∀ a b,tA tps a b->a≠b) {l:List Str} (hn:l.Nodup) (p:l.Perm l') (h1:l.length<=n) (h2:l'.length<=m):mo tps n l=mo tps m l':=by
 have half:∀ {l l':List Str} {n m:Nat},l.Nodup->l.Perm l'->l.length<=n->l'.length<=m->mo tps n l<=mo tps m l':=fun {l l' n m} hn p h1 h2=>by
  obtain ⟨f,hf,c⟩:=qbC hi n h1 hn;have:=qbc hi m h2 (p.nodup_iff.mp hn) (f:=f) ⟨hf.sym,hf.tie,fun a b e=>p.mem_iff.mp (hf.inn a b e)⟩;have e:qaC f l=qaC f l':=by unfold qaC;exact (p.filter _).length_eq
  omega
 exact xM (half hn p h1 h2) (half (p.nodup_iff.mp hn) p.symm h2 h1)
theorem qda {l:List Str} (hn:l.Nodup) (hy:y∈l):l.Perm (y::del l y):=by
 refine (List.perm_ext_iff_of_nodup hn (yo.mpr ⟨fun z=>(mem_del.mp z).2 rfl,hn.filter _⟩)).mpr fun a=>?_;rw [yx,mem_del];constructor
 ·intro h;by_cases e:a=y
  ·exact .inl e
  ·exact .inr ⟨h,e⟩
 ·rintro (e | e)
  ·rw [e];exact hy
  ·exact e.1
noncomputable def rmL (ss:List Str) (b:Nat):List Str:=ss.filter fun s=>!b.testBit (ss.idxOf s)
theorem qdY (ss:List Str) (b:Nat):(rmL ss b).length<=ss.length:=yW _ _
theorem qdZ (hn:ss.Nodup) {b k:Nat} (hy:ss[k]?=some y):rmL ss (b ||| 2 ^ k)=del (rmL ss b) y:=by
 unfold rmL del;rw [List.filter_filter];refine kh fun s hs=>?_;rw [X3,XV];have hs':ss[ss.idxOf s]?=some s:=by rw [yb (Yv hs),YM]
 have e:decide (k=ss.idxOf s)=decide (s=y):=Ys.mpr ⟨fun z=>by rw [<- z,hy] at hs';exact (ym hs').symm,fun z=>by rw [z] at hs';rw [z];exact qw hn hy hs'⟩;rw [e,Bool.not_or,Bool.and_comm]
theorem qcE (hn:ss.Nodup) {b k:Nat} (hy:ss[k]?=some y):y∈rmL ss b↔b.testBit k=false:=by
 unfold rmL;rw [yp,qdI hn hy,xV];exact ⟨fun z=>z.2,fun z=>⟨ye hy,z⟩⟩
theorem qeB {TI:List (Nat×Nat)} (hj:TJ ss.length TI) (hE:TEq ss TI tps) {a k:Nat} (hs:ss[a]?=some s) (hy:ss[k]?=some y):k∈nbQ TI ss.length a↔tA tps s y:=by
 unfold nbQ;rw [yp,YI,yY,hE a k s y hs hy];have hk:=(yc.mp hy).1;constructor
 ·rintro ⟨_,z⟩;rcases kQ a k with l | l
  ·rw [Xw l,kK l] at z;exact .inl z
  ·rw [XG l,kC l] at z;exact .inr z
 ·rintro (z | z)
  ·have:=(hj.2.1 _ z).1;dsimp only at this;exact ⟨hk,by rw [Xw (by omega),kK (by omega)];exact z⟩
  ·have:=(hj.2.1 _ z).1;dsimp only at this;exact ⟨hk,by rw [XG (by omega),kC (by omega)];exact z⟩
theorem qgf {TI:List (Nat×Nat)} (hi:∀ a b,tA tps a b->a≠b) (hn:ss.Nodup) (hj:TJ ss.length TI) (hE:TEq ss TI tps):∀ (d b a:Nat) (s:Str),2 ^ ss.length - b<=d->0 < b->b < 2 ^ ss.length->ss[a]?=some s ->
  (wQ (nbQ TI ss.length) ss.length b a=true↔mo tps ss.length (rmL ss b) < mo tps (ss.length + 1) (s::rmL ss b))
 | 0,b,a,s,h,_,h2,_=>by omega
 | d + 1,b,a,s,h,h1,h2,hs=>by
  have hR:(rmL ss b).Nodup:=hn.filter _;obtain ⟨f1,f2,f3⟩:=qaK (fun y=>1 + mo tps ss.length (del (rmL ss b) y)) ((rmL ss b).filter (tB tps s)) (mo tps ss.length (rmL ss b));show _↔_ < ((rmL ss b).filter (tB tps s)).foldl (fun m y=>max m (1 + mo tps ss.length (del (rmL ss b) y))) (mo tps ss.length (rmL ss b))
  have step:∀ {k:Nat} {y:Str},ss[k]?=some y->b.testBit k=false->(wQ (nbQ TI ss.length) ss.length (b ||| 2 ^ k) k=false↔mo tps ss.length (rmL ss b)<=mo tps ss.length (del (rmL ss b) y)):=fun {k y} hy hb=>by
   have g1:=qed hb;have hk:=(yc.mp hy).1;have ih:=qgf hi hn hj hE d (b ||| 2 ^ k) k y (by omega) (by omega) (qee h2 hk) hy;rw [qdZ hn hy] at ih;have hm:=(qcE hn hy (b:=b)).mpr hb;have e:=qdX hi (n:=ss.length) (m:=ss.length + 1) hR (qda hR hm) (qdY _ _) (by rw [yC];have:=qa8 (rmL ss b) y;have:=qdY ss b;omega);rw [<- e] at ih
   cases w:wQ (nbQ TI ss.length) ss.length (b ||| 2 ^ k) k with
   | true=>rw [w] at ih;have:=ih.mp rfl;constructor<;>intro z<;>first | cases z | omega
   | false =>
    rw [w] at ih;refine ⟨fun _=>?_,fun _=>rfl⟩;rcases Nat.lt_or_ge (mo tps ss.length (del (rmL ss b) y)) (mo tps ss.length (rmL ss b)) with z | z
    ·have:=ih.mpr z;cases this
    ·exact z
  rw [qft (fun a k hk=>qc9 hk) h1 h2,Yn];constructor
  ·rintro ⟨k,hk,e⟩;obtain ⟨e1,e2⟩:=(yT _ _).mp e;have hkl:=qc9 hk;have hy:ss[k]?=some ss[k]:=yb hkl;generalize ss[k]=y at hy;have hb:b.testBit k=false:=by simpa using e1
   have ho:=f2 y (yp.mpr ⟨(qcE hn hy).mpr hb,tB_iff.mpr ((qeB hj hE hs hy).mp hk)⟩);have:=(step hy hb).mp (by simpa using e2)
   (try dsimp only at ho)
   omega
  ·intro hlt;rcases f3 with z | ⟨y,hy,z⟩
   ·omega
   ·obtain ⟨y1,y2⟩:=yp.mp hy;have hys:y∈ss:=(yp.mp y1).1;obtain ⟨k,hk⟩:=yf hys;have hb:=(qcE hn hk (b:=b)).mp y1
    (try dsimp only at z)
    refine ⟨k,(qeB hj hE hs hk).mpr (tB_iff.mp y2),?_⟩;rw [hb,(step hk hb).mpr (by omega)];rfl
theorem w_loose {TI:List (Nat×Nat)} (hi:∀ a b,tA tps a b->a≠b) (hn:ss.Nodup) (hj:TJ ss.length TI) (hE:TEq ss TI tps) (g:PGo ss tps qs) (F:Fn (tA tps) (pt qs) S ss) {a:Nat} (hs:ss[a]?=some s) :
  (!wQ (nbQ TI ss.length) ss.length (2 ^ a) a)=(S.rows s).isSome:=by
 have ha:=(yc.mp hs).1;have hm:=ye hs;have h:=qgf hi hn hj hE _ (2 ^ a) a s (yh _) (Xd a) (xp (by decide) ha) hs
 have e:rmL ss (2 ^ a)=del ss s:=by
  have:=qdZ hn hs (b:=0);rw [Nat.zero_or] at this;rw [this]
  congr 1
  unfold rmL;exact XW.mpr fun s _=>by rw [Nat.zero_testBit];rfl
 rw [e] at h;have e2:=qdX hi (n:=ss.length) (m:=ss.length + 1) hn (qda hn hm) (yh _) (by rw [yC];have:=qa8 ss s;omega);have e3:=mo_eq hi (n:=ss.length) (m:=(del ss s).length) (l:=del ss s) (qa8 ss s) (yh _) (hn.filter _);rw [<- e2,e3] at h;have l:=mx_loose hi hn g F hm;have le:=(qcf hi hn hm).1
 cases w:wQ (nbQ TI ss.length) ss.length (2 ^ a) a with
 | true =>
  rw [w] at h;have:=h.mp rfl
  cases r:S.rows s with
  | none=>rfl
  | some x=>have:=l.mpr (by rw [r];intro z;cases z);omega
 | false =>
  rw [w] at h
  cases r:S.rows s with
  | some x=>rfl
  | none =>
   exfalso;have hne:¬ mo tps (del ss s).length (del ss s)=mo tps ss.length ss:=fun z=>(l.mp z) r;have:=h.mpr (by omega);cases this
end
theorem uM:FnScope ["web"] ["web"] (qh qbE):=fS
theorem uH:FnScope ["web","start"] ["web","start"] (qh qaO):=fS
theorem KC:FnScope ["web","free","hands","place"] ["web"] (qh qau):=fS
theorem uq:FnScope ["self"] ["self"] (qh zP):=fS
theorem Wt.ir (W:Wt cw H x ss ns tps):∀ a b,tA tps a b->a≠b:=fun a b z e=>by
 rcases z with z | z
 ·exact (W.ok _ z).2.2 e
 ·exact (W.ok _ z).2.2 e.symm
theorem mx_le {rs:List (Str×Str)} (hi:∀ a b,tA tps a b->a≠b) (hn:ss.Nodup) (g:PGo ss tps qs) (m:MxF ss tps qs) (g':PGo ss tps rs):rs.length<=qs.length:=by
 obtain ⟨S,F⟩:=m;have h1:=F.most (g'.mt.gr hi)
 have h2:(ss.filter fun u=>!(pt rs u).isSome&&(S.rows u).isSome).length<=(snL (pt rs) ss).length:=by
  unfold snL
  exact qc3 (hn.filter _) fun x hx=>by
   obtain ⟨a,b⟩:=yp.mp hx;rw [yT] at b;exact yp.mpr ⟨a,b.1⟩
 have c1:=qbn (f:=pt qs) (ss:=ss);have c2:=qbn (f:=pt rs) (ss:=ss);have c3:=g.cnt hn;have c4:=g'.cnt hn;omega
noncomputable def reL (S:FS) (ss:List Str):List Str:=ss.filter fun s=>(S.rows s).isSome
inductive spLo (cw:Addr) (vs:List V) (H:Hp) (Q:VK) (E:XK):Prop|mk (x:Addr) (ss:List Str) (ns:List Nat) (tps:List (Str×Str)) (_:vs=[.ref x]) (_:Wt cw H x ss ns tps) (_:∀ (l:Addr) (S:FS) (rs:List (Str×Str)) (H':Hp),L2.Same H H'->PGo ss tps rs->Fn (tA tps) (pt rs) S ss->H' l=some (.lst ((reL S ss).map V.str))->Q (.ref l) H')
noncomputable def hnd (S:FS) (s:Str):Int:=if (S.rows s).isSome=true then 1 else 0
noncomputable def hdK (S:FS) (ss:List Str):List (Key×V):=ss.map fun s=>((.inr s:Key),V.int (hnd S s))
theorem qbF:∀ {ss:List Str},jJ (hdK S ss) (.inr v:Key)=if v∈ss then some (.int (hnd S v)) else none
 | []=>rfl
 | s::r=>by
  have e:jJ (hdK S (s::r)) (.inr v:Key)=if s=v then some (.int (hnd S s)) else jJ (hdK S r) (.inr v:Key):=by
   show Option.map _ (List.find? _ (((.inr s:Key),V.int (hnd S s))::hdK S r))=_;rw [Y2];by_cases h:s=v
   ·subst h;simp
   ·rw [yy h];have:decide ((Sum.inr s:Key)=Sum.inr v)=false:=yl (fun z=>h (Y7 z));simp only [this];rfl
  rw [e,qbF];by_cases h:s=v
  ·subst h;rw [yE rfl,yE yL]
  ·rw [yy h];by_cases h2:v∈r
   ·rw [yE h2,yE (yA _ h2)]
   ·rw [yy h2,yy (fun z=>(yx.mp z).elim (fun w=>h w.symm) h2)]
theorem hdK_put (h:v∉ss):j9 (hdK S ss) (.inr v:Key) (.int (hnd S v))=hdK S (ss++[v]):=by
 rw [qag _ (by rw [qbF,yy h])];unfold hdK;rw [yG];rfl
theorem hdK_keys (S:FS) (ss:List Str):(hdK S ss).map (fun kv=>kV kv.1)=ss.map V.str:=by unfold hdK;rw [kR];rfl
theorem hdK_len (S:FS) (ss:List Str):(hdK S ss).length=ss.length:=by unfold hdK;rw [ya]
inductive spWnQ (cw:Addr) (vs:List V) (H:Hp) (Q:VK) (E:XK):Prop|mk (x:Addr) (ss:List Str) (ns:List Nat) (tps:List (Str×Str)) (_:vs=[.ref x]) (_:Wt cw H x ss ns tps) (_:∀ (d:Addr) (S:FS) (rs:List (Str×Str)) (H':Hp),L2.Same H H'->H d=none->PGo ss tps rs->Fn (tA tps) (pt rs) S ss->H' d=some (.dK (hdK S ss))->Q (.ref d) H')
inductive spWiQ (cw:Addr) (vs:List V) (H:Hp) (Q:VK) (E:XK):Prop|mk (x:Addr) (ss:List Str) (ns:List Nat) (tps:List (Str×Str)) (v:Str) (_:vs=[.ref x,.str v]) (_:Wt cw H x ss ns tps) (_:v∈ss) (_:∀ (S:FS) (rs:List (Str×Str)) (H':Hp),L2.Same H H'->PGo ss tps rs->Fn (tA tps) (pt rs) S ss->Q (.int (hnd S v)) H')
noncomputable def TdQ (H:Hp) (t:Addr) (ss:List Str) (tps:List (Str×Str)):Prop:=∃ (t1 t2:Addr) (ls:List Addr),H t=some (.tup [.ref t1,.ref t2])/\H t1=some (.tup (ss.map V.str))/\H t2=some (.tup (ls.map V.ref))/\All2 (fun u ab=>H u=some (.tup [.str ab.1,.str ab.2])) ls tps
theorem TdQ.same {t:Addr} (h:TdQ H t ss tps) (s:L2.Same H H'):TdQ H' t ss tps:=by
 obtain ⟨t1,t2,ls,h1,h2,h3,h4⟩:=h;exact ⟨t1,t2,ls,s _ _ h1,s _ _ h2,s _ _ h3,h4.mono fun _ _ z=>s _ _ z⟩
inductive spTdQ (cw:Addr) (vs:List V) (H:Hp) (Q:VK) (E:XK):Prop|mk (x:Addr) (ss:List Str) (ns:List Nat) (_:vs=[.ref x]) (_:WebAt cw H x ss ns) (_:∀ (t:Addr) (H':Hp),L2.Same H H'->TdQ H' t ss (qK ss ns ss.length)->Q (.ref t) H')
theorem in_strs {m:Addr} {l:List Str} {Q:VK} (e:H m=some (.lst (l.map V.str))) (q:Q (.bl (decide (s∈l))) H):qd2 K false (.str s) (.ref m) H Q:=
 .inl ⟨m,_,rfl,.inl (SqL.of e),rfl,flat_strs l,by rw [yy (by decide),qdK];exact q⟩
theorem ok_lo (F:Fun K "loose" "loose" qbE f fd) (T:Txt K mg cc cw) (uA:DefOk P w K mg base CX0 14 "greatest" ["web"] (spGr cw)) (KK:MakeOk P w K mg base CX0 10 (cc 9) "Forest" ["self","web","pairs"] (spFi cc cw)) (K0:MethOk P w K mg base CX0 2 (cc 9) "reached" ["self"] (spFd2 cc cw)):FnOk P w K mg base CX0 15 f fd ["web"] (spLo cw):=by
 refine F.ok uM fun _ _ _ _ H vs Q E hr h=>?_
 ·obtain ⟨x,ss,ns,tps,rfl,W,q⟩:=h;refine ⟨_,(qf (qm (qZ K0 (hmR hr) (qan KK (hmR hr) (qa (pv 0) (qa (qt uA (hmR hr) qF (qa (pv 0) qd)) qd)))))),?_⟩;ext;refine ⟨x,ss,ns,tps,rfl,W,fun l ls rs H1 s1 hP hG hM=>?_⟩;have W1:=W.same s1;ext;refine fun y dx hy hdx hne=>qeT W1 hP hG hy hdx hne fun H0 H4 a S dn wt lo ea hD s4=>?_;subst ea;refine ⟨rfl,?_⟩;obtain ⟨fx,ff,fx1,_,_,_,fx2⟩:=id hD.fo.obj;have s04:=s1.trans s4;ext;refine ⟨a.x,fx,ff,rfl,fx1,fx2 _ (by decide +kernel),?_⟩;ext;refine ⟨H0,a,ss,ns,rs,S,dn,wt,lo,_,rfl,hD,W.wok.few,fun hl=>?_,fun hl l' H5 s5 _ hl5=>?_⟩
  ·rcases hD.en with ⟨e,_⟩ | ⟨t,r,e,_,_,hA,hle⟩
   ·exact absurd e hl
   ·obtain ⟨g1,c1⟩:=qdU W.wok W.adj W.ok hG hA (by omega);have:=mx_le W.ir W.wok.nd hG hM g1;omega
  ·subst hl;exact q l' S rs H5 (s04.trans s5) hG (qfq hD (W1.wb hG)) hl5
theorem ok_wnQ (F:Fun K "winners" "winners" qau f fd) (T:Txt K mg cc cw) (uQ:DefOk P w K mg base CX0 15 "loose" ["web"] (spLo cw)) (k8:MethOk P w K mg base CX0 1 cw "places" ["self"] (spPls cw)):FnOk P w K mg base CX0 16 f fd ["web"] (spWnQ cw):=by
 refine F.ok KC fun _ _ _ _ H vs Q E hr h=>?_
 ·obtain ⟨x,ss,ns,tps,rfl,W,q⟩:=h;have hu:=za hr;refine ⟨_,(qc (qo (i:=1) KC.nd rfl (yJ rfl) (qt uQ (hmR hr) qF (qa (pv 0) qd)))
 (qc (qo (i:=2) KC.nd rfl (yJ rfl) j0)
 (qc (q9 yP rfl (jg (K:=K) rfl (qZ k8 (hmR hr) (pv 0))) (qr (i:=3) KC.nd rfl (yJ rfl))
 (qf (jG (qcK (qp (zW (K:=K) rfl hu) (pv 3) (pv 1) (by with_unfolding_all rfl)) qg qg) (jL (pv 2) (pv 3) (jM hu)))))
 (qf (qm (pv 2)))))),?_⟩
  ext;refine ⟨x,ss,ns,tps,rfl,W,fun l S rs H1 s1 hG hF hl=>?_⟩;ext;intro d hd;have s2:=qL s1 (o:=.dK []) hd;have hd0:=s1.free hd;have ed:upd H1 d (.dK []) d=some (.dK (hdK S [])):=qb;have el:upd H1 d (.dK []) l=some (.lst ((reL S ss).map V.str)):=by rw [qe (qj hl hd)];exact hl
  generalize upd H1 d (.dK [])=H2 at s2 ed el;have W2:=W.same s2;obtain ⟨wx,dd,ol,nn,hb,_⟩:=id W2.web;have hw:=W.wok;ext;refine ⟨x,wx,_,rfl,hb,jY (by decide +kernel),?_⟩;ext;refine ⟨x,ss,ns,rfl,W2.web,fun pl hpl=>?_⟩;have s3:=qL (Sr H2) (o:=.lst (ss.map V.str)) hpl;have epl:upd H2 pl (.lst (ss.map V.str)) pl=some (.lst (ss.map V.str)):=qb;replace ed:=s3 _ _ ed;replace el:=s3 _ _ el;replace s2:=s2.trans s3;generalize upd H2 pl (.lst (ss.map V.str))=H3 at s3 epl ed el s2;have nld:l≠d:=zv el ed (by intro z;cases z);have npd:pl≠d:=zv epl ed (by intro z;cases z);refine .inl ⟨⟨_,.of epl⟩,jj (xs:=ss.map V.str) (fun i σ J=>∃ x3,σ=[some (.ref x),some (.ref l),some (.ref d),x3]/\L2.Same H J/\J pl=some (.lst (ss.map V.str))/\J l=some (.lst ((reL S ss).map V.str))/\J d=some (.dK (hdK S (ss.take i)))) ⟨none,rfl,s2,epl,el,by rw [X4];exact ed⟩ (fun i σ J _ hp=>by obtain ⟨_,_,_,z,_⟩:=hp;exact .of z) (fun i y σ J hy hp=>?_) fun σ J hp=>?_⟩
  ·obtain ⟨x3,rfl,sJ,e1,e2,e3⟩:=hp;rw [yd] at hy;obtain ⟨v,hv,rfl⟩:=yn.mp hy;have hil:i < ss.length:=(yc.mp hv).1;have htk:ss.take (i + 1)=ss.take i++[v]:=by rw [yQ,hv];rfl
   have hm:v∉ss.take i:=fun z=>by
    have h3:(ss.take (i + 1)).Nodup:=hw.nd.sublist (xR _ _);rw [htk] at h3;exact (yX.mp h3).2.2 _ z v (by simp) rfl
   have hlen:(hdK S (ss.take i)).length < sizeLine:=by rw [hdK_len,yR];exact qi (by have:=hw.few;omega)
   have hin:decide (v∈reL S ss)=(S.rows v).isSome:=by
    unfold reL;rw [Yq,yY,yp];exact ⟨fun z=>z.2,fun z=>⟨ye hv,z⟩⟩
   have put:∀ J',J'=upd J d (.dK (j9 (hdK S (ss.take i)) (.inr v:Key) (.int (hnd S v))))->∃ x3,[some (V.ref x),some (.ref l),some (.ref d),some (.str v)]=[some (.ref x),some (.ref l),some (.ref d),x3]/\L2.Same H J'/\J' pl=some (.lst (ss.map V.str))/\J' l=some (.lst ((reL S ss).map V.str))/\J' d=some (.dK (hdK S (ss.take (i + 1)))):=fun J' e=>by
    rw [e,htk,<- hdK_put hm];exact ⟨_,rfl,qaa sJ hd0,by rw [qe npd];exact e1,by rw [qe nld];exact e2,qb⟩
   ext;refine in_strs e2 ?_;rw [hin];ext;have hh:hnd S v=if (S.rows v).isSome=true then 1 else 0:=rfl;refine qU (fun h=>?_) fun h=>?_
   ·rw [yE h] at hh;ext;refine .inr ⟨d,_,rfl,DPut.k (k:=Sum.inr v) e3 hlen,?_⟩;exact put _ (by rw [hh])
   ·rw [yy h] at hh;ext;refine .inr ⟨d,_,rfl,DPut.k (k:=Sum.inr v) e3 hlen,?_⟩;exact put _ (by rw [hh])
  ·obtain ⟨x3,rfl,sJ,e1,e2,e3⟩:=hp;rw [ya,yV] at e3;ext;exact q d S rs J sJ hd0 hG hF e3
theorem ok_wiQ (F:Fun K "winner" "winner" qaO f fd) (T:Txt K mg cc cw) (KR:DefOk P w K mg base CX0 16 "winners" ["web"] (spWnQ cw)) (k9:MethOk P w K mg base CX0 4 cw "number_of" ["self","place"] (spNum cw)):FnOk P w K mg base CX0 17 f fd ["web","start"] (spWiQ cw):=by
 refine F.ok uH fun _ _ _ _ H vs Q E hr h=>?_
 ·obtain ⟨x,ss,ns,tps,v,rfl,W,hv,q⟩:=h;have hu:=za hr;obtain ⟨wx,dd,ol,nn,hb,_⟩:=id W.web;obtain ⟨j,gj⟩:=yf hv;refine ⟨_,(qc (qM (qG k9 (hmR hr) (pv 0) (qa (pv 1) qd)))
 (qf (qm (qx (qy (K:=K) rfl hu) (qt KR (hmR hr) qF (qa (pv 0) qd)) (pv 1) (fun _ _=>rfl))))),?_⟩
  ext;refine ⟨x,wx,_,rfl,hb,jY (by decide +kernel),?_⟩;ext;refine ⟨x,ss,ns,v,j,rfl,W.web,gj,fun H1 s1=>?_⟩;ext;refine ⟨x,ss,ns,tps,rfl,W.same s1,fun d S rs H2 s2 hd0 hG hF ed=>?_⟩;ext;have dg:=DGet.k (k:=Sum.inr v) ed;rw [qbF,yE hv] at dg;exact .inr ⟨d,_,rfl,dg,q S rs H2 (s1.trans s2) hG hF⟩
theorem ok_tdQ (F:Fun K "told" "Web.told" zP f fd) (T:Txt K mg cc cw) (Kp:MethOk P w K mg base CX0 7 cw "ties" ["self"] (spTs cw)):FnOk P w K mg base CX0 8 f fd ["self"] (spTdQ cw):=by
 refine F.ok uq fun _ _ _ _ H vs Q E hr h=>?_
 ·obtain ⟨x,ss,ns,rfl,W,q⟩:=h;obtain ⟨wx,dd,ol,nn,hb,hdd,hol,hnn,hw⟩:=id W;refine ⟨_,(qf (qm (ju (qa (qY (qaD (K:=K) rfl) rfl T.b_tuple Xx (qa (qB (K:=K) rfl (pv 0) rfl) qd)) (qa (qY (qaD (K:=K) rfl) rfl T.b_tuple Xx (qa (qZ Kp (hmR hr) (pv 0)) qd)) qd))))),?_⟩;ext;refine .inl ⟨x,cw,wx,_,.ref ol,rfl,hb,T.wcl,T.wo,by rw [qz,yy (by decide +kernel),qz,yE rfl],?_⟩;ext;refine ⟨ol,_,rfl,.inl ⟨SqL.of hol,fun t1 ht1=>?_⟩⟩;have s1:=qL (Sr H) (o:=.tup (ss.map V.str)) ht1;have e1:upd H t1 (.tup (ss.map V.str)) t1=some (.tup (ss.map V.str)):=qb;generalize upd H t1 (.tup (ss.map V.str))=H1 at s1 e1;ext;refine ⟨x,wx,_,rfl,s1 _ _ hb,jY (by decide +kernel),?_⟩;ext;refine ⟨x,ss,ns,rfl,W.same s1,fun l ts H2 s2 hl0 hl hl196 hAl=>?_⟩;ext;refine ⟨l,_,rfl,.inl ⟨SqL.of hl,fun t2 ht2=>?_⟩⟩;have s3:=qL s2 (o:=.tup (ts.map V.ref)) ht2;have e2:upd H2 t2 (.tup (ts.map V.ref)) t2=some (.tup (ts.map V.ref)):=qb;have hA3:=hAl.mono fun t ab z=>(show upd H2 t2 (.tup (ts.map V.ref)) t=some (.tup [.str ab.1,.str ab.2]) by rw [qe (qj z.2.2 ht2)];exact z.2.2);generalize upd H2 t2 (.tup (ts.map V.ref))=H3 at s3 e2 hA3;ext;refine ⟨by show 2<=sizeLine;decide,fun t ht=>?_⟩;have s4:=qL (Sr H3) (o:=.tup [.ref t1,.ref t2]) ht;refine q t _ (s1.trans (s3.trans s4)) ⟨t1,t2,ts,qb,s4 _ _ (s3 _ _ e1),s4 _ _ e2,hA3.mono fun _ _ z=>s4 _ _ z⟩
theorem Kq:FnScope ["_law_web_here","_law_names_here","_law_due","_law_k","_law_found"] ["_law_web_here","_law_names_here","_law_due"] (qh jF):=fS
theorem Kg:FnScope ["_law_web_here","_law_names_here","_law_due","_law_turn","_law_found","_law_k","_law_hand"] ["_law_web_here","_law_names_here","_law_due"] (qh j8):=fS
noncomputable def duA (TI:List (Nat×Nat)) (n a:Nat):Int:=if wQ (nbQ TI n) n (2 ^ a) a=true then 0 else 1
noncomputable def duL (TI:List (Nat×Nat)) (n:Nat):List Int:=(List.range n).map (duA TI n)
theorem qeC {TI:List (Nat×Nat)} {a:Nat} (h:a < n):(duL TI n)[a]?=some (duA TI n a):=by unfold duL;rw [yd,XU h];rfl
structure DuW (cw:Addr) (H:Hp) (x ln ld:Addr) (ss:List Str) (ns:List Nat) (tps:List (Str×Str)) (TI:List (Nat×Nat)):Prop where
 wt:Wt cw H x ss ns tps
 nm:H ln=some (.lst (ss.map V.str))
 du:H ld=some (.lst ((duL TI ss.length).map V.int))
 few:ss.length<=7
 tj:TJ ss.length TI
 te:TEq ss TI tps
theorem DuW.same {TI:List (Nat×Nat)} (h:DuW cw H x ln ld ss ns tps TI) (s:L2.Same H H'):DuW cw H' x ln ld ss ns tps TI:=⟨h.wt.same s,s _ _ h.nm,s _ _ h.du,h.few,h.tj,h.te⟩
theorem DuW.val {rs:List (Str×Str)} {TI:List (Nat×Nat)} (h:DuW cw H x ln ld ss ns tps TI) (hG:PGo ss tps rs) (hF:Fn (tA tps) (pt rs) S ss) {a:Nat} (hs:ss[a]?=some s):hnd S s=duA TI ss.length a:=by
 have:=w_loose h.wt.ir h.wt.wok.nd h.tj h.te hG hF hs;unfold hnd duA;rw [<- this];cases wQ (nbQ TI ss.length) ss.length (2 ^ a) a<;>rfl
inductive spObQ (cw:Addr) (vs:List V) (H:Hp) (Q:VK) (E:XK):Prop|mk (x ln ld:Addr) (ss:List Str) (ns:List Nat) (tps:List (Str×Str)) (TI:List (Nat×Nat)) (_:vs=[.ref x,.ref ln,.ref ld]) (_:DuW cw H x ln ld ss ns tps TI) (_:∀ H',L2.Same H H'->Q (.bl true) H')
theorem ok_obQ (F:Fun K "_law_one_by_one" "_law_one_by_one" jF f fd) (T:Txt K mg cc cw) (uN:DefOk P w K mg base CX0 17 "winner" ["web","start"] (spWiQ cw)):FnOk P w K mg base CX0 18 f fd ["_law_web_here","_law_names_here","_law_due"] (spObQ cw):=by
 refine F.ok Kq fun _ _ _ _ H vs Q E hr h=>?_
 ·obtain ⟨x,ln,ld,ss,ns,tps,TI,rfl,W,q⟩:=h;have hu:=za hr;have few:=W.few;refine ⟨_,(qc (q9 yP rfl (jg (K:=K) rfl (qC (zc (K:=K) rfl) (qdD rfl rfl rfl T.b_list T.b_range (qa (qk (zr (K:=K) rfl) rfl T.b_len Y0 (qa (pv 1) qd)) qd)) (jZ (qel (K:=K) rfl) (qdD rfl rfl rfl T.b_list T.b_range (qa (qk (zr (K:=K) rfl) rfl T.b_len Y0 (qa (pv 1) qd)) qd)) zy (jI qg)))) (qr (i:=3) Kq.nd rfl (yJ rfl))
 (qc (qo (i:=4) Kq.nd rfl (yJ rfl) (qt uN (hmR hr) qF (qa (pv 0) (qa (qx (qy (K:=K) rfl hu) (pv 1) (pv 3) (fun _ _=>rfl)) qd))))
 (qf (qP (PW.pt (qaA (jd (qX (qk (qam (K:=K) rfl) rfl T.b_isinstance YF (qa (pv 4) (qa (jB (v:=.ty "int") rfl T.b_int boot_int rfl) qd))))) (qaA (qX (qk (qam (K:=K) rfl) rfl T.b_isinstance YF (qa (pv 4) (qa (jB (v:=.ty "bool") rfl T.b_bool boot_bool rfl) qd)))) (qab (qp (qaB (K:=K) rfl hu) (pv 4) (qx (qy (K:=K) rfl hu) (pv 2) (pv 3) (fun _ _=>rfl)) (qD _)))))) (qf (qm jW)) qv))))
 (qf (qm jW))),?_⟩
  ext;refine vLR ?_;ext;refine zU (SqL.of W.nm) ?_;rw [ya];ext;refine ⟨ss.length,rfl,by omega,fun l1 hl1=>?_⟩;obtain ⟨xs,hxs⟩:∃ xs:List V,xs=(List.range ss.length).map fun i=>V.int ((i:Nat):Int):=⟨_,rfl⟩;rw [<- hxs]
  have hxm:∀ y∈xs,∃ k:Nat,y=.int (k:Int)/\k < ss.length:=fun y hy=>by
   rw [hxs] at hy;obtain ⟨k,hk,rfl⟩:=Yd.mp hy;exact ⟨k,rfl,YI.mp hk⟩
  have hxl:xs.length<=7:=by rw [hxs,ya,Yo];exact few
  have s1:=qL (Sr H) (o:=.lst xs) hl1;have e1:upd H l1 (.lst xs) l1=some (.lst xs):=qb;generalize upd H l1 (.lst xs)=H1 at s1 e1;ext;refine vLR ?_;ext;refine zU (SqL.of (s1 _ _ W.nm)) ?_;rw [ya];ext;refine ⟨ss.length,rfl,by omega,fun l2 hl2=>?_⟩;rw [<- hxs];have s2:=qL (Sr H1) (o:=.lst xs) hl2;have e2:upd H1 l2 (.lst xs) l2=some (.lst xs):=qb;replace e1:=s2 _ _ e1;replace s2:=s1.trans s2;generalize upd H1 l2 (.lst xs)=H2 at s2 e1 e2;ext;refine .inl ⟨l2,_,rfl,SqL.of e2,fun l3 hl3=>?_⟩;obtain ⟨zs,hzs⟩:∃ zs,zs=qbG xs none (some 2):=⟨_,rfl⟩;rw [<- hzs];have hzm:∀ y∈zs,y∈xs:=fun y hy=>by rw [hzs] at hy;exact cut_mem hy
  have hzl:zs.length<=7:=by
   rw [hzs];unfold qbG;rw [yR,Xv];omega
  have s3:=qL (Sr H2) (o:=.lst zs) hl3;have e3:upd H2 l3 (.lst zs) l3=some (.lst zs):=qb;replace e1:=s3 _ _ e1;replace s3:=s2.trans s3;generalize upd H2 l3 (.lst zs)=H3 at s3 e1 e3;refine qez e1 e3 (by omega) fun l4 hl4=>?_;have s4:=qL s3 (o:=.lst (xs++zs)) hl4;have e4:upd H3 l4 (.lst (xs++zs)) l4=some (.lst (xs++zs)):=qb;generalize upd H3 l4 (.lst (xs++zs))=H4 at s4 e4;ext;refine .inl ⟨⟨_,.of e4⟩,jj (xs:=xs++zs) (fun i σ J=>∃ x3 x4,σ=[some (.ref x),some (.ref ln),some (.ref ld),x3,x4]/\L2.Same H4 J) ⟨none,none,rfl,L2.Same.refl H4⟩ (fun i σ J _ hp=>by obtain ⟨_,_,_,z⟩:=hp;exact .of (z _ _ e4)) (fun i y σ J hy hp=>?_) fun σ J hp=>?_⟩
  ·obtain ⟨x3,x4,rfl,sJ⟩:=hp;obtain ⟨k,rfl,hk⟩:=hxm y ((yz.mp (ye hy)).elim id (hzm y));have WJ:=W.same (s4.trans sJ);obtain ⟨v,hv⟩:∃ v,ss[k]?=some v:=⟨_,yb hk⟩;ext;refine .inl (zR WJ.nm (v:=.str v) (qA (by rw [yd,hv];rfl)) ?_);refine ⟨x,ss,ns,tps,v,rfl,WJ.wt,ye hv,fun S rs J2 s5 hG hF=>?_⟩;have W2:=WJ.same s5;rw [W2.val hG hF hv];ext;refine qbw (.inl (.int _)) rfl (zl K "int" (by simp) "int" (by simp)) ?_;ext;refine yq ?_;ext;refine qbw (.inl (.int _)) rfl (zl K "int" (by simp) "bool" (by simp)) ?_;ext;refine yq ?_;ext;refine .inl (zR W2.du (v:=.int (duA TI ss.length k)) (qA (by rw [yd,qeC hk];rfl)) ?_);refine qfK ?_;rw [yI rfl];ext;refine yq ?_;exact ⟨_,_,rfl,sJ.trans s5⟩
  ·obtain ⟨x3,x4,rfl,sJ⟩:=hp;ext;exact q J (s4.trans sJ)
theorem eq_selfL {a b:Addr} {l:List Str} {Q:VK} (ha:H a=some (.lst (l.map V.str))) (hb:H b=some (.lst (l.map V.str))) (q:Q (.bl false) H):qeq K true (.ref a) (.ref b) H Q:=by
 refine .inr (.inl ⟨a,b,true,1,rfl,rfl,by decide,?_,q⟩)
 have z:=EqT.lst (K:=K) (H:=H) (n:=0) (e:=fun _=>true) (SqL.of ha) (SqL.of hb) rfl fun j x y hx hy=>by
  rw [hx] at hy;cases hy;rw [yd] at hx;obtain ⟨v,_,rfl⟩:=yn.mp hx;have e:eqV (.str v) (.str v)=true:=by rw [qcA];exact yI rfl
  have:=EqD.flat (K:=K) (H:=H) (n:=0) (x:=.str v) (y:=.str v) rfl rfl
  rwa [e] at this
 have e:((List.range (l.map V.str).length).all fun _=>true)=true:=YV.mpr fun _ _=>rfl;rw [e] at z;exact z
theorem ok_tgQ (F:Fun K "_law_together" "_law_together" j8 f fd) (T:Txt K mg cc cw) (KR:DefOk P w K mg base CX0 16 "winners" ["web"] (spWnQ cw)):FnOk P w K mg base CX0 17 f fd ["_law_web_here","_law_names_here","_law_due"] (spObQ cw):=by
 refine F.ok Kg fun _ _ _ _ H vs Q E hr h=>?_
 ·obtain ⟨x,ln,ld,ss,ns,tps,TI,rfl,W,q⟩:=h;have hu:=za hr;have few:=W.few;refine ⟨_,(qc (q9 yP rfl (qQ rfl T.b_range (qa qg qd)) (qr (i:=3) Kg.nd rfl (yJ rfl))
 (qc (qo (i:=4) Kg.nd rfl (yJ rfl) (qt KR (hmR hr) qF (qa (pv 0) qd)))
 (qc (qP (PW.pt (qaA (jd (qX (qk (qam (K:=K) rfl) rfl T.b_isinstance YF (qa (pv 4) (qa (jB (v:=.ty "dict") rfl T.b_dict boot_dict rfl) qd))))) (qab (qp (qaB (K:=K) rfl hu) (qY (qa0 (K:=K) rfl rfl) rfl T.b_list xN (qa (pv 4) qd)) (pv 1) (qD _))))) (qf (qm jW)) qv)
 (qc (q9 yP rfl (qQ rfl T.b_range (qa (qk (zr (K:=K) rfl) rfl T.b_len Y0 (qa (pv 1) qd)) qd)) (qr (i:=5) Kg.nd rfl (yJ rfl))
 (qc (qo (i:=6) Kg.nd rfl (yJ rfl) (qx (qy (K:=K) rfl hu) (pv 4) (qx (qy (K:=K) rfl hu) (pv 1) (pv 5) (fun _ _=>rfl)) (fun _ _=>rfl)))
 (qf (qP (PW.pt (qaA (jd (qX (qk (qam (K:=K) rfl) rfl T.b_isinstance YF (qa (pv 6) (qa (jB (v:=.ty "int") rfl T.b_int boot_int rfl) qd))))) (qaA (qX (qk (qam (K:=K) rfl) rfl T.b_isinstance YF (qa (pv 6) (qa (jB (v:=.ty "bool") rfl T.b_bool boot_bool rfl) qd)))) (qab (qp (qaB (K:=K) rfl hu) (pv 6) (qx (qy (K:=K) rfl hu) (pv 2) (pv 5) (fun _ _=>rfl)) (qD _)))))) (qf (qm jW)) qv))))
 (qf (qM (k_bm0 (K:=K) rfl PySem.F.plainAttrs_dict PySem.F.slot_dict_clear PySem.F.type_dict_clear mtR_dclear (pv 4))))))))
 (qf (qm jW))),?_⟩
  ext;refine ⟨_,rfl,by decide,by decide,jl (fun i σ J=>∃ x3 x4 x5 x6,σ=[some (.ref x),some (.ref ln),some (.ref ld),x3,x4,x5,x6]/\L2.Same H J) ⟨none,none,none,none,rfl,L2.Same.refl H⟩ (fun i σ J hi hp=>?_) fun σ J hp=>?_⟩
  ·obtain ⟨x3,x4,x5,x6,rfl,sJ⟩:=hp;have WJ:=W.same sJ;ext;refine ⟨x,ss,ns,tps,rfl,WJ.wt,fun d S rs J1 s1 hd0 hG hF ed=>?_⟩;have W1:=WJ.same s1;ext;refine qbw (.inl (.dK ed)) rfl (zl K "dict" (by simp) "dict" (by simp)) ?_;ext;refine yq ?_;ext;refine .inr (.inl ⟨d,_,rfl,ed,fun l hl=>?_⟩);rw [hdK_keys];have s2:=qL (Sr J1) (o:=.lst (ss.map V.str)) hl;have el:upd J1 l (.lst (ss.map V.str)) l=some (.lst (ss.map V.str)):=qb;replace ed:=s2 _ _ ed;have W2:=W1.same s2;replace s2:=s1.trans s2;generalize upd J1 l (.lst (ss.map V.str))=J2 at s2 el ed W2;ext;refine eq_selfL el W2.nm ?_;ext;refine yq ?_;ext;refine zU (SqL.of W2.nm) ?_;rw [ya];ext;refine ⟨_,rfl,by omega,by omega,jl (fun k σ G=>G=J2/\∃ x5 x6,σ=[some (.ref x),some (.ref ln),some (.ref ld),some (.int (0 + (i:Int))),some (.ref d),x5,x6]) ⟨rfl,_,_,rfl⟩ (fun k σ G hk hp=>?_) fun σ G hp=>?_⟩
   ·obtain ⟨rfl,x5,x6,rfl⟩:=hp;have hk':k < ss.length:=by omega
    obtain ⟨v,hv⟩:∃ v,ss[k]?=some v:=⟨_,yb hk'⟩;rw [xL];ext;refine .inl (zR W2.nm (v:=.str v) (qA (by rw [yd,hv];rfl)) ?_);have dg:=DGet.k (k:=Sum.inr v) ed;rw [qbF,yE (ye hv),W2.val hG hF hv] at dg;refine .inr ⟨d,_,rfl,dg,?_⟩;ext;refine qbw (.inl (.int _)) rfl (zl K "int" (by simp) "int" (by simp)) ?_;ext;refine yq ?_;ext;refine qbw (.inl (.int _)) rfl (zl K "int" (by simp) "bool" (by simp)) ?_;ext;refine yq ?_;ext;refine .inl (zR W2.du (v:=.int (duA TI ss.length k)) (qA (by rw [yd,qeC hk'];rfl)) ?_);refine qfK ?_;rw [yI rfl];ext;refine yq ?_;exact ⟨rfl,_,_,rfl⟩
   ·obtain ⟨rfl,x5,x6,rfl⟩:=hp;ext;refine ⟨.inr (.inr (.inl ⟨rfl,.inl ⟨_,ed⟩⟩)),?_⟩;refine ⟨d,_,rfl,rfl,ed,?_⟩;exact ⟨_,_,_,_,rfl,qaa (sJ.trans s2) (sJ.free hd0)⟩
  ·obtain ⟨x3,x4,x5,x6,rfl,sJ⟩:=hp;ext;exact q J sJ
theorem Kr:FnScope ["_law_script","_law_k","_law_state","_law_names_here","_law_ties","_law_web_here","_law_known","_law_wins","_law_due"] ["_law_script"] (qh qci):=fS
inductive spLaw (K:W.Frag) (vs:List V) (H:Hp) (Q:VK) (E:XK):Prop|mk (a:Addr) (ns:List Int) (_:vs=[.ref a]) (_:SqL K H a (ns.map V.int)) (_:ns.length<=63) (_:∀ H',Q (.bl true) H')
theorem BB.out (s:L2.Same H H1) (hp:H p=none) (b:BB p H1 H2):L2.Same H H2:=fun c o e=>b.1 c o (fun z=>by subst z;rw [hp] at e;cases e) (s c o e)
theorem TdQ.bb {t:Addr} (h:TdQ H t ss tps) (hp:Box H p) (b:BB p H H'):TdQ H' t ss tps:=by
 obtain ⟨t1,t2,ls,h1,h2,h3,h4⟩:=h;exact ⟨t1,t2,ls,b.tup hp h1,b.tup hp h2,b.tup hp h3,h4.mono fun _ _ z=>b.tup hp z⟩
theorem qd0 {a b:Addr} (ha:H a=some (.tup xs)) (hb:H b=some (.tup ys)) (hl:xs.length=ys.length) (he:∀ (j:Nat) x y,xs[j]?=some x->ys[j]?=some y->EqD K H n x y true):EqT K H (n + 1) a b true:=by
 have z:=EqT.tup (K:=K) (H:=H) (n:=n) (e:=fun _=>true) (SqT.of ha) (SqT.of hb) he
 have e:((List.range (min xs.length ys.length)).all (fun _=>true)&&xs.length==ys.length)=true:=by
  rw [hl,Y9,kN];exact YV.mpr fun _ _=>rfl
 rw [e] at z;exact z
theorem qcF {a b:Addr} (ha:H a=some (.tup xs)) (hb:H b=some (.tup ys)) (hl:xs.length=ys.length) (he:∀ (j:Nat) x y,xs[j]?=some x->ys[j]?=some y->EqD K H n x y true):EqD K H (n + 1) (.ref a) (.ref b) true:=by
 by_cases e:a=b
 ·subst e;exact .self
 ·exact .deep (qd0 ha hb hl he) e
theorem qcG (v:Str):EqD K H n (.str v) (.str v) true:=by
 have e:eqV (.str v) (.str v)=true:=by rw [qcA];exact yI rfl
 have:=EqD.flat (K:=K) (H:=H) (n:=n) (x:=.str v) (y:=.str v) rfl rfl
 rwa [e] at this
theorem told_eq {t t':Addr} {Q:VK} (h:TdQ H t ss tps) (h':TdQ H t' ss tps) (q:Q (.bl false) H):qeq K true (.ref t) (.ref t') H Q:=by
 obtain ⟨a1,a2,ls,h1,h2,h3,h4⟩:=h;obtain ⟨b1,b2,ms,g1,g2,g3,g4⟩:=h';refine .inr (.inl ⟨t,t',true,3,rfl,rfl,by decide,?_,q⟩);refine qd0 h1 g1 rfl fun j x y hx hy=>?_
 match j,hx,hy with
 | 0,hx,hy =>
  cases hx;cases hy;refine qcF h2 g2 rfl fun k u v hu hv=>?_;rw [hu] at hv;cases hv;rw [yd] at hu;obtain ⟨s,_,rfl⟩:=yn.mp hu;exact qcG s
 | 1,hx,hy =>
  cases hx;cases hy;refine qcF h3 g3 (by rw [ya,ya,h4.len,g4.len]) fun k u v hu hv=>?_;rw [yd] at hu hv;obtain ⟨c,hc,rfl⟩:=yn.mp hu;obtain ⟨d,hd,rfl⟩:=yn.mp hv;obtain ⟨ab,hab⟩:∃ ab,tps[k]?=some ab:=⟨_,yb (by rw [<- h4.len];exact (yc.mp hc).1)⟩;refine qcF (n:=0) (h4.at_ k c ab hc hab) (g4.at_ k d ab hd hab) rfl fun i x y hx hy=>?_;rw [hx] at hy;cases hy
  match i,hx with
  | 0,hx=>cases hx;exact qcG _
  | 1,hx=>cases hx;exact qcG _
  | i + 2,hx=>simp at hx
 | j + 2,hx,_=>simp at hx
theorem ok_law52 (F:Fun K "law" "law" qci f fd) (T:Txt K mg cc cw) (uO:DefOk P w K mg base CX0 1 "_law_cell" ["_law_script","_law_k"] (spCeQ K)) (uI:DefOk P w K mg base CX0 1 "_law_begun" ["_law_cell_here"] spBgQ) (kS:DefOk P w K mg base CX0 1 "_law_take" ["_law_state","_law_many"] spTake) (uJ:DefOk P w K mg base CX0 3 "_law_drawn" ["_law_state","_law_most"] spDrQ) (uR:DefOk P w K mg base CX0 7 "_law_web" ["_law_state","_law_names_here","_law_ties"] (spWbQ cw)) (K5:MethOk P w K mg base CX0 8 cw "told" ["self"] (spTdQ cw)) (uB:DefOk P w K mg base CX0 1 "_law_beside" ["_law_size","_law_ties"] spBsQ) (uC:DefOk P w K mg base CX0 1 "_law_solved" ["_law_beside_here"] spSvQ) (K9:DefOk P w K mg base CX0 18 "_law_one_by_one" ["_law_web_here","_law_names_here","_law_due"] (spObQ cw)) (KS:DefOk P w K mg base CX0 17 "_law_together" ["_law_web_here","_law_names_here","_law_due"] (spObQ cw)):FnOk P w K mg base CX0 19 f fd ["_law_script"] (spLaw K):=by
 refine F.ok Kr fun _ _ _ _ H vs Q E hr h=>?_
 ·obtain ⟨a,zs,rfl,ha,hl,q⟩:=h;have hu:=za hr;obtain ⟨TC107,hTC107⟩:∃ t0:TS,t0=fun D σ J=>∃ (i:Int) (p x ln lt ld kn wd:Addr) (ss:List Str) (ns:List Nat) (tps:List (Str×Str)) (TI:List (Nat×Nat)),σ=[some (.ref a),some (.int i),some (.ref p),some (.ref ln),some (.ref lt),some (.ref x),some (.ref kn),some (.ref wd),some (.ref ld)]/\L2.Same H J/\DuW cw J x ln ld ss ns tps TI/\TdQ J kn ss (qK ss ns ss.length)/\∀ J',L2.Same H J'->D.nx σ J':=⟨_,rfl⟩;refine ⟨_,(qc (q9 yP rfl (qQ rfl T.b_range (qa (qk (qac rfl) rfl T.b_max boot_max (qa qg (qa (qk (qad rfl) rfl T.b_min boot_min (qa qg (qa (qk (zr (K:=K) rfl) rfl T.b_len Y0 (qa (pv 0) qd)) qd))) qd))) qd)) (qr (i:=1) Kr.nd rfl (yJ rfl))
 (qc (qo (i:=2) Kr.nd rfl (yJ rfl) (qt uI (hmR hr) qF (qa (qt uO (hmR hr) qF (qa (pv 0) (qa (pv 1) qd))) qd)))
 (qc (jG (qt uJ (hmR hr) qF (qa (pv 2) (qa qg qd))) (pg_tupU rfl (zD (qr (i:=3) Kr.nd rfl (yJ rfl)) (zD (qr (i:=4) Kr.nd rfl (yJ rfl)) qcl))))
 (qc (qo (i:=5) Kr.nd rfl (yJ rfl) (qt uR (hmR hr) qF (qa (pv 2) (qa (pv 3) (qa (pv 4) qd)))))
 (qc (qo (i:=6) Kr.nd rfl (yJ rfl) (qZ K5 (hmR hr) (pv 5)))
 (qc (qo (i:=7) Kr.nd rfl (X2 rfl) (qt uC (hmR hr) qF (qa (qt uB (hmR hr) qF (qa (qk (zr (K:=K) rfl) rfl T.b_len Y0 (qa (pv 3) qd)) (qa (pv 4) qd))) qd)))
 (qc (qbr (sc:=qh qci) (XN:=["_law_script","_law_k","_law_state","_law_names_here","_law_ties","_law_web_here","_law_known","_law_wins","_law_due"]) ["_law_at","_law_wins"] 1 [7] rfl rfl rfl (by decide +kernel) rfl (by decide +kernel) (i:=8) Kr.nd rfl rfl
  (qQ rfl T.b_range (qa (qk (zr (K:=K) rfl) rfl T.b_len Y0 (qa (pv 3) qd)) qd)) (fun _ _ _ _=>(qr (i:=0) (show (["_law_at","_law_wins"]:List Str).Nodup by decide +kernel) rfl (yJ rfl))) ji
  (fun _ _ _ _=>jN)
  (fun _ _ _ _=>(qY qae rfl T.b_int boot_int (qa (pe_not (qx (qy (K:=K) rfl hu) (pv 1) (ju (qa (qC qbO qg (pv 0)) (qa (pv 0) qd))) (fun _ _=>rfl))) qd))))
 (qc (qP (PW.pt (qbd (qp (zX (K:=K) rfl hu) (qt kS (hmR hr) qF (qa (pv 2) (qa qg qd))) qg (qD _)) (qaP (jd (qX (qt KS (hmR hr) qF (qa (pv 5) (qa (pv 3) (qa (pv 8) qd))))))))) (qf (qm jW)) qv)
 (qdW TC107 (qc (qP (PW.pt (qaA (jd (qX (qt K9 (hmR hr) qF (qa (pv 5) (qa (pv 3) (qa (pv 8) qd)))))) (qab (jd (qX (qt KS (hmR hr) qF (qa (pv 5) (qa (pv 3) (qa (pv 8) qd))))))))) (qf (qm jW)) qv)
 (qf (qP (qp (qaB (K:=K) rfl hu) (qZ K5 (hmR hr) (pv 5)) (pv 6) (qD _)) (qf (qm jW)) qv))) ?cut107)))))))))
 (qf (qm jW))),?_⟩
  case cut107 =>
   intro D σ J h;rw [hTC107] at h;obtain ⟨i,p,x,ln,lt,ld,kn,wd,ss,ns,tps,TI,rfl,sJ,W,hK,nx⟩:=h;ext;refine ⟨x,ln,ld,ss,ns,tps,TI,rfl,W,fun J1 s1=>?_⟩;have W1:=W.same s1;ext;refine yq ?_;ext;refine ⟨x,ln,ld,ss,ns,tps,TI,rfl,W1,fun J2 s2=>?_⟩;have W2:=W1.same s2;ext;refine yq ?_;ext;obtain ⟨wx,dd,ol,nn,hb,_⟩:=id W2.wt.web;refine ⟨x,wx,_,rfl,hb,jY (by decide +kernel),?_⟩;ext;refine ⟨x,ss,ns,rfl,W2.wt.web,fun t J3 s3 hT=>?_⟩;ext;refine told_eq hT (((hK.same s1).same s2).same s3) ?_;ext;refine yq ?_;exact nx J3 (((sJ.trans s1).trans s2).trans s3)
  ext;refine zU ha ?_;ext;refine ⟨_,_,rfl,?_⟩;ext;refine ⟨_,_,rfl,?_⟩;ext;rw [ya];refine ⟨_,rfl,by split<;>split<;>omega,by split<;>split<;>omega,?_⟩;generalize hN:(Int.toNat _)=N;have hN':N<=63:=by rw [<- hN];split<;>split<;>omega
  clear hN;refine jl (fun i σ H'=>L2.Same H H'/\∃ x1 x2 x3 x4 x5 x6 x7 x8,σ=[some (.ref a),x1,x2,x3,x4,x5,x6,x7,x8]) ⟨L2.Same.refl H,none,none,none,none,none,none,none,none,rfl⟩ (fun i σ H1 hi hp=>?_) fun σ H1 hp=>?_
  ·obtain ⟨s1,x1,x2,x3,x4,x5,x6,x7,x8,rfl⟩:=hp;ext;refine ⟨a,zs,_,rfl,s1.seq ha,by omega,by omega,fun c=>?_⟩;ext;refine ⟨c,rfl,fun p u1 u2 u3 hp0=>?_⟩;have s2:=qL s1 (o:=.lst [.int u1,.int u2,.int u3]) hp0;have hB:Box (upd H1 p (.lst [.int u1,.int u2,.int u3])) p:=⟨u1,u2,u3,qb⟩;have hpH:H p=none:=s1.free hp0;generalize upd H1 p (.lst [.int u1,.int u2,.int u3])=H2 at s2 hB;ext;refine vAsgU ?_;ext;refine ⟨p,rfl,hB,fun r ln lt ss ts TI H3 D3 hr3=>?_⟩;refine ⟨r,_,rfl,.inr (.of hr3),rfl,_,_,rfl,_,_,rfl,rfl,?_⟩;ext;refine ⟨p,ln,lt,ss,ts,TI,rfl,D3.bb.2,D3.n1,D3.n2,D3.nm,D3.nok,D3.few,D3.li,D3.tj,fun x ns tps H4 b4 W4 keep hE=>?_⟩;have b24:=D3.bb.trans b4;have hnm4:=b4.1 _ _ D3.n1 D3.nm;have hli4:=D3.li.bb D3.bb.2 b4 D3.n2;have few:=D3.few;obtain ⟨wx,dd,ol,nn,hb,_⟩:=id W4.web;ext;refine ⟨x,wx,_,rfl,hb,jY (by decide +kernel),?_⟩;ext;refine ⟨x,ss,ns,rfl,W4.web,fun kn H5 s5 hT5=>?_⟩;ext;refine zU (SqL.of (s5 _ _ hnm4)) ?_;rw [ya];ext;refine ⟨lt,ss.length,ts,TI,rfl,few,hli4.same s5,fun lb ls H6 s6 hB6=>?_⟩;ext;refine ⟨lb,ls,TI,ss.length,rfl,hB6,few,fun wd kvs H7 s7 ewd hS=>?_⟩;have s47:=(s5.trans s6).trans s7;ext;refine zU (SqL.of (s47 _ _ hnm4)) ?_;rw [ya];ext;refine ⟨_,rfl,by omega,by omega,jT (lo:=0) (fun i ys G=>L2.Same H7 G/\ys=((List.range i).map (duA TI ss.length)).map V.int) ⟨L2.Same.refl H7,rfl⟩ (fun k ys G hk hs=>?_) fun ys G hs=>?_⟩
   ·obtain ⟨sG,rfl⟩:=hs;have hk':k < ss.length:=by omega
    rw [xL];ext;refine qai ?_;ext;refine vI ⟨by omega,by omega,by decide⟩ ?_;ext;have e1:(1 * 2 ^ ((k:Int)).toNat:Int)=((2 ^ k:Nat):Int):=by rw [Yb,Int.one_mul,Xc];rfl
    rw [e1];refine ⟨by show 2<=sizeLine;decide,fun t ht=>?_⟩;have s8:=qL sG (o:=.tup [.int ((2 ^ k:Nat):Int),.int (k:Int)]) ht;have et:upd G t (.tup [.int ((2 ^ k:Nat):Int),.int (k:Int)]) t=some (.tup ((kT (2 ^ k) k).map kV)):=qb;generalize upd G t (.tup [.int ((2 ^ k:Nat):Int),.int (k:Int)])=G2 at s8 et;have hval:=hS (2 ^ k) k (Xd k) (xp (by decide) hk') hk' (Nat.testBit_two_pow_self) (.inl (Xd k));have dg:=DGet.t (k:=kT (2 ^ k) k) (s8 _ _ ewd) et;rw [hval] at dg;refine .inr ⟨wd,_,rfl,dg,?_⟩;ext;refine .inr ⟨_,rfl,?_⟩;refine ⟨by rw [ya,ya,Yo];exact qi (by omega),s8,?_⟩;rw [Xe,yG,yG]
    have ed:(if (!wQ (nbQ TI ss.length) ss.length (2 ^ k) k)=true then (1:Int) else 0)=duA TI ss.length k:=by
     unfold duA;cases wQ (nbQ TI ss.length) ss.length (2 ^ k) k<;>rfl
    rw [ed];rfl
   ·obtain ⟨sG,rfl⟩:=hs;rw [Yb];refine ⟨by rw [ya,ya,Yo];exact yZ (qi (by omega)),fun ld hld=>?_⟩;have s8:=qL sG (o:=.lst ((duL TI ss.length).map V.int)) hld;have eld:upd G ld (.lst ((duL TI ss.length).map V.int)) ld=some (.lst ((duL TI ss.length).map V.int)):=qb;have eu:upd G ld (.lst (((List.range ss.length).map (duA TI ss.length)).map V.int))=upd G ld (.lst ((duL TI ss.length).map V.int)):=rfl;rw [eu];have b8:=(b24.same s47).same sG;have nld:=b8.apart hld;generalize upd G ld (.lst ((duL TI ss.length).map V.int))=H8 at s8 eld;have s48:=s47.trans s8;have b28:=b24.same s48;have hT8:=hT5.same ((s6.trans s7).trans s8);ext;refine ⟨p,2,rfl,b28.2,by decide,by decide,fun rr H9 r0 r1 b9=>?_⟩;have b49:BB p H4 H9:=((BB.refl b24.2).same s48).trans b9;have W9:DuW cw H9 x ln ld ss ns tps TI:=⟨keep _ b49,b49.1 _ _ D3.n1 hnm4,b9.1 _ _ nld eld,few,D3.tj,hE⟩;have hT9:=hT8.bb b28.2 b9;have sH9:L2.Same H H9:=BB.out s2 hpH (b28.trans b9);ext;refine qa9 ?_;ext;refine qU (fun h=>?_) fun h=>?_
    ·ext;refine ⟨x,ln,ld,ss,ns,tps,TI,rfl,W9,fun J1 s10=>?_⟩;ext;refine yq ?_;rw [hTC107];exact ⟨_,p,x,ln,lt,ld,kn,wd,ss,ns,tps,TI,rfl,sH9.trans s10,W9.same s10,hT9.same s10,fun J' sJ'=>⟨sJ',_,_,_,_,_,_,_,_,rfl⟩⟩
    ·rw [hTC107];exact ⟨_,p,x,ln,lt,ld,kn,wd,ss,ns,tps,TI,rfl,sH9,W9,hT9,fun J' sJ'=>⟨sJ',_,_,_,_,_,_,_,_,rfl⟩⟩
  ·obtain ⟨s1,x1,x2,x3,x4,x5,x6,x7,x8,rfl⟩:=hp;ext;exact q H1
end
theorem all_mk {l:W.OpenLaw} {w:World} {h:Heap} {mg:Str->Option Value} {fa Cw Cf :Addr} {ty0 ty1 ty2:Tok} (X:K.In h) (G:h.Ns mainGlobals mg) (hfa:mg "law"=some (.ref fa))
  (Cw_:W.nsIn K mainGlobals "Web"=some (some (.ref Cw)))
  (Cf_:W.nsIn K mainGlobals "Forest"=some (some (.ref Cf)))
  (UL:FG K "are_pairs" zn)
  (Ut:FG K "partners_in" jQ)
  (UA:FG K "told_pairs" jH)
  (vw:FG K "is_row" qaI)
  (u4:FG K "are_unlike_places" q8)
  (Ui:FG K "goes_by_turns" qN)
  (UP:FG K "can_turn" zM)
  (vx:FG K "turned" qar)
  (UQ:FG K "greatest" zN)
  (Uj:FG K "greatest_from" jA)
  (VB:FG K "loose" qbE)
  (U4:FG K "is_name" zA)
  (vy:FG K "winner" qaO)
  (U5:FG K "winners" qau)
  (U6:FG K "has_bit" qao)
  (UR:FG K "is_place" zH)
  (Ua:FG K "are_two_places" jr)
  (UB:FG K "numbers_of" j4)
  (U7:FG K "near_of" qap)
  (vz:FG K "_law_cell" qaL)
  (U8:FG K "_law_begun" qas)
  (vA:FG K "_law_take" qaM)
  (U9:FG K "_law_names" zf)
  (va:FG K "_law_shape" zg)
  (vb:FG K "_law_drawn" qat)
  (VC:FG K "_law_web" qbD)
  (US:FG K "_law_beside" zh)
  (UT:FG K "_law_solved" jV)
  (Up:FG K "_law_one_by_one" jF)
  (UC:FG K "_law_together" j8)
  (VG:FG K "law" qci)
  (V3:FM K Cw "__init__" "Web.__init__" zI)
  (UU:FM K Cw "places" "Web.places" j5)
  (vD:FM K Cw "ties" "Web.ties" zL)
  (Uu:FM K Cw "has_place" "Web.has_place" jx)
  (UM:FM K Cw "has_tie" "Web.has_tie" jP)
  (Uv:FM K Cw "number_of" "Web.number_of" jy)
  (UV:FM K Cw "beside" "Web.beside" j6)
  (Uk:FM K Cw "bits_beside" "Web.bits_beside" jk)
  (vE:FM K Cw "tied" "Web.tied" zJ)
  (vF:FM K Cw "told" "Web.told" zP)
  (UD:FM K Cw "names_in" "Web.names_in" jq)
  (Uw:FM K Cf "__init__" "Forest.__init__" jS)
  (vG:FM K Cf "row" "Forest.row" j7)
  (UE:FM K Cf "reached" "Forest.reached" jc)
  (vc:FM K Cf "grow" "Forest.grow" jR)
  (UW:FM K Cf "reach" "Forest.reach" jE)
  (Ub:FM K Cf "look_around" "Forest.look_around" qW)
  (u5:FM K Cf "bring_together" "Forest.bring_together" qH)
  (uW:FM K Cf "bases_down_from" "Forest.bases_down_from" qJ)
  (Uc:FM K Cf "reach_round" "Forest.reach_round" qV)
  (vd:FM K Cf "fold" "Forest.fold" jz)
  (w1:W.plainGet K Cw Str.empty=true)
  (w2:W.hasDictIn K Cw=true)
  (w3:W.plainOver K Cw=true)
  (w4:W.findIn K (.ref Cw) "__setattr__"=some (some (.builtin "object.__setattr__")))
  (w5:W.makesIn K Cw=true)
  (w6:W.keepIn K (.ref Cw)=true)
  (w7:W.findIn K (.ref Cw) "numbers"=some none)
  (w8:W.findIn K (.ref Cw) "order"=some none)
  (w9:W.findIn K (.ref Cw) "near"=some none)
  (pw1:W.plainGet K Cf Str.empty=true)
  (pw2:W.hasDictIn K Cf=true)
  (pw3:W.plainOver K Cf=true)
  (pw4:W.findIn K (.ref Cf) "__setattr__"=some (some (.builtin "object.__setattr__")))
  (pw5:W.makesIn K Cf=true)
  (pw6:W.keepIn K (.ref Cf)=true)
  (pf0:W.findIn K (.ref Cf) "board"=some none)
  (pf1:W.findIn K (.ref Cf) "partners"=some none)
  (pf2:W.findIn K (.ref Cf) "rows"=some none)
  (pf3:W.findIn K (.ref Cf) "parents"=some none)
  (pf4:W.findIn K (.ref Cf) "bases"=some none)
  (pf5:W.findIn K (.ref Cf) "rings"=some none)
  (pf6:W.findIn K (.ref Cf) "waiting"=some none)
  (pf7:W.findIn K (.ref Cf) "longer"=some none)
  (zz0:W.nsIn K mainGlobals "zip"=some none)
  (zsor:W.nsIn K mainGlobals "sorted"=some none)
  (zdic:W.nsIn K mainGlobals "dict"=some none)
  (z0:W.nsIn K mainGlobals "len"=some none)
  (z1:W.nsIn K mainGlobals "int"=some none)
  (z2:W.nsIn K mainGlobals "enumerate"=some none)
  (z3:W.nsIn K mainGlobals "all"=some none)
  (z4:W.nsIn K mainGlobals "max"=some none)
  (z5:W.nsIn K mainGlobals "min"=some none)
  (z6:W.nsIn K mainGlobals "isinstance"=some none)
  (z7:W.nsIn K mainGlobals "bool"=some none)
  (z8:W.nsIn K mainGlobals "str"=some none)
  (z9:W.nsIn K mainGlobals "range"=some none)
  (z10:W.nsIn K mainGlobals "list"=some none)
  (z11:W.nsIn K mainGlobals "tuple"=some none)
  (u0:W.nsIn K mainGlobals "LONGEST_NAME"=some (some (.int 6 ty0)))
  (u1:W.nsIn K mainGlobals "MOST_PLACES"=some (some (.int 14 ty1)))
  (u2:W.nsIn K mainGlobals "MOST_TIES"=some (some (.int 30 ty2))) :
  ∃ fd:FuncData,(∀ (s:Shared) (v:Value),BindsTo s fd ⟨[v],[]⟩ [("_law_script",v)])/\∀ base:Heap,K.In base->base.Ns mainGlobals mg->FnOk l.prog w K mg base CX0 19 fa fd ["_law_script"] (spLaw K):=by
 obtain ⟨_,_,UO,vP⟩:=UL;obtain ⟨_,_,Ux,vQ⟩:=Ut;obtain ⟨_,_,UF,vR⟩:=UA;obtain ⟨_,_,vH,vS⟩:=vw;obtain ⟨_,_,u6,vT⟩:=u4;obtain ⟨_,_,Ul,vV⟩:=Ui;obtain ⟨_,_,UX,vW⟩:=UP;obtain ⟨_,_,vJ,vX⟩:=vx;obtain ⟨_,_,UY,vY⟩:=UQ;obtain ⟨_,_,Um,vZ⟩:=Uj;obtain ⟨_,_,VD,v6⟩:=VB;obtain ⟨_,_,ve,v7⟩:=U4;obtain ⟨_,_,vK,v8⟩:=vy;obtain ⟨_,_,vf,v9⟩:=U5;obtain ⟨_,_,vg,Va⟩:=U6;obtain ⟨_,_,UZ,Vb⟩:=UR;obtain ⟨_,_,Ud,Vc⟩:=Ua;obtain ⟨_,_,UG,Vd⟩:=UB;obtain ⟨_,_,vh,Ve⟩:=U7;obtain ⟨_,_,vL,Vf⟩:=vz;obtain ⟨_,_,vi,Vg⟩:=U8;obtain ⟨_,_,vM,Vh⟩:=vA;obtain ⟨_,_,vk,Vi⟩:=U9;obtain ⟨_,_,vm,Vj⟩:=va;obtain ⟨_,_,vn,Vk⟩:=vb;obtain ⟨_,_,VE,Vl⟩:=VC;obtain ⟨_,_,U0,Vm⟩:=US;obtain ⟨_,_,U1,Vn⟩:=UT;obtain ⟨_,_,Uq,Vo⟩:=Up;obtain ⟨_,_,UH,Vp⟩:=UC;obtain ⟨_,_,VH,Vq⟩:=VG;obtain ⟨_,_,V4,V5,VF⟩:=V3;obtain ⟨_,_,VI,VJ,Vr⟩:=UU;obtain ⟨_,_,VL,VM,Vs⟩:=vD;obtain ⟨_,_,VN,VO,Vt⟩:=Uu;obtain ⟨_,_,VP,VQ,Vu⟩:=UM;obtain ⟨_,_,VR,VS,Vv⟩:=Uv;obtain ⟨_,_,VT,VU,Vw⟩:=UV;obtain ⟨_,_,VV,VW,Vx⟩:=Uk;obtain ⟨_,_,VX,VY,Vy⟩:=vE;obtain ⟨_,_,VZ,V0,Vz⟩:=vF;obtain ⟨_,_,V1,V2,VA⟩:=UD;obtain ⟨_,_,Uy,Uz,uZ⟩:=Uw;obtain ⟨_,_,vN,vO,UI⟩:=vG;obtain ⟨_,_,UJ,UK,u9⟩:=UE;obtain ⟨_,_,vo,vp,Ur⟩:=vc;obtain ⟨_,_,U2,U3,Uo⟩:=UW;obtain ⟨_,_,Ue,Uf,uU⟩:=Ub;obtain ⟨_,_,u7,u8,uT⟩:=u5;obtain ⟨_,_,uX,uY,uS⟩:=uW;obtain ⟨_,_,Ug,Uh,uV⟩:=Uc;obtain ⟨_,_,vq,vv,Us⟩:=vd;have e:=hfa.symm.trans (W.mg_of X G VH);cases e;have wcl:Cls K Cw:=⟨w1,w2,w3,w4⟩;have pcl:Cls K Cf:=⟨pw1,pw2,pw3,pw4⟩
 have pfa:∀ a∈fAtt,NoAttr K Cf a:=fun a ha=>by
  unfold fAtt at ha;simp only [yx,y0,YU] at ha;rcases ha with rfl | rfl | rfl | rfl | rfl | rfl | rfl | rfl<;>assumption
 have T:Txt K mg (fun i=>Cf) Cw:=⟨YD X G z0,
  YD X G z1,
  YD X G z2,
  YD X G z3,
  YD X G z4,
  YD X G z5,
  YD X G z6,
  YD X G z7,
  YD X G z8,
  YD X G z9,
  YD X G z10,
  YD X G z11,
  ⟨ty0,W.mg_of X G u0⟩,
  ⟨ty1,W.mg_of X G u1⟩,
  ⟨ty2,W.mg_of X G u2⟩,
  wcl,
  w7,
  w8,
  w9,
  W.mg_of X G Cw_,
  W.mg_of X G Cf_,
  pcl,
  pfa,
  YD X G zz0,
  YD X G zsor,
  YD X G zdic⟩
 obtain ⟨oc,od,kV,doc,pm,an,cd,ct,sl,rfl,lk,hc⟩:=Vq.ex;refine ⟨W.fnOf "law" "law" (zV qci) (zz qci) (qh qci) .none kV doc pm an cd ct,fun s v=>.of_eq rfl,fun base _ _=>?_⟩;have fg:=@fg_mk l.prog w K mg base h;have fm:=@fm_mk l.prog w K mg base;have fw:=@fw_mk l.prog w K mg base h;have d_name:=fg X G ve v7 (ok_name v7 T);have d_place:=fg X G UZ Vb (ok_place Vb d_name);have d_two:=fg X G Ud Vc (ok_two Vc T d_place);have d_bit:=fg X G vg Va (ok_bit Va);have d_nums:=fg X G UG Vd (ok_nums Vd T d_name);have d_near:=fg X G vh Ve (ok_near Ve T d_two d_bit);have q_web:MakeOk l.prog w K mg base CX0 5 Cw "Web" ["self","names","ties"] (spWeb Cw):=fw X G Cw_ w5 w6 V4 V5 VF (ok_web VF T d_nums d_near);have m_has:=fm wcl VN VO Vt (ok_has Vt T d_place);have m_num:=fm wcl VR VS Vv (ok_num Vv T m_has);have m_bb:=fm wcl VV VW Vx (ok_bb Vx T m_num);have m_nin:=fm wcl V1 V2 VA (ok_nin VA T d_bit);have m_bs:=fm wcl VT VU Vw (ok_bs Vw T m_bb m_nin);have m_tied:=fm wcl VX VY Vy (ok_tied Vy T m_bb m_num d_bit);have m_pls:=fm wcl VI VJ Vr (ok_pls Vr T);have m_ts:=fm wcl VL VM Vs (ok_ts Vs T m_bs);have m_ht:=fm wcl VP VQ Vu (ok_ht Vu T d_two m_tied);have d_ap:=fg X G UO vP (ok_ap vP T m_ht);have d_pn:=fg X G Ux vQ (ok_pn vQ T d_ap);have d_tp:=fg X G UF vR (ok_tp vR T d_pn m_ts);have d_ul:=fg X G u6 vT (ok_ul vT T m_has);have d_gt:=fg X G Ul vV (ok_gt vV T m_ht);have d_ir:=fg X G vH vS (ok_ir vS T d_pn d_ul d_gt);have d_ct:=fg X G UX vW (ok_ct vW T d_pn d_ir);have d_tu:=fg X G vJ vX (ok_tu vX T d_pn m_ts d_ct);have p_re:=fm pcl U2 U3 Uo (ok_re Uo T);have p_bd:=fm pcl uX uY uS (ok_bd uS T);have p_rr:=fm pcl Ug Uh uV (ok_rr uV T p_re);have p_fd:=fm pcl vq vv Us (ok_fdF Us T m_pls);have p_bt:=fm pcl u7 u8 uT (ok_bt uT T p_bd p_rr p_fd);have p_la:=fm pcl Ue Uf uU (ok_la uU T m_bs p_bt p_re);have p_gw:=fm pcl vo vp Ur (ok_gw Ur T m_pls p_re p_la);have p_mk:MakeOk l.prog w K mg base CX0 10 Cf "Forest" ["self","web","pairs"] (spFi (fun i=>Cf) Cw):=fw X G Cf_ pw5 pw6 Uy Uz uZ (ok_fi uZ T d_pn p_gw);have p_row:=fm pcl vN vO UI (ok_fr UI T);have p_rch:=fm pcl UJ UK u9 (ok_fd2 u9 T m_pls);have d_gf:=fg X G Um vZ (ok_gf vZ T d_tp p_mk p_row d_tu);have d_gr:=fg X G UY vY (ok_gr vY T d_gf);have d_lo:=fg X G VD v6 (ok_lo v6 T d_gr p_mk p_rch);have m_td:=fm wcl VZ V0 Vz (ok_tdQ Vz T m_ts);have d_wn:=fg X G vf v9 (ok_wnQ v9 T d_lo m_pls);have d_wi:=fg X G vK v8 (ok_wiQ v8 T d_wn m_num);have d_tk:=fg X G vM Vh (ok_tkQ Vh);have d_nmq:=fg X G vk Vi (ok_nmQ Vi T d_tk);have d_sh:=fg X G vm Vj (ok_shQ Vj T d_tk);have d_dr:=fg X G vn Vk (ok_drQ Vk T d_tk d_nmq d_sh);have d_wb:=fg X G VE Vl (ok_wbQ Vl T d_tk q_web);have d_ob:=fg X G Uq Vo (ok_obQ Vo T d_wi);have d_tg:=fg X G UH Vp (ok_tgQ Vp T d_wn);exact ok_law52 Vq T (fg X G vL Vf (ok_ceQ Vf T)) (fg X G vi Vg (ok_bgQ Vg T)) d_tk d_dr d_wb m_td (fg X G U0 Vm (ok_bsQ Vm T)) (fg X G U1 Vn (ok_svQ Vn T)) d_ob d_tg
theorem walk {l:PySem.W.OpenLaw} {q:Program} {loose:List Str} {XP:(Str->Option Value)->Heap->Prop} {YP:World->Heap->Prop} {d:DefRec} {K:Params->yg} (hn:l.most=some 63) (hdf:d.params.defaults=[])
  (hY:∀ (w:World) (h:Heap),YP w h->(K w.params).In h)
  (F:∀ (w:World) (mg:Str->Option Value) (fa:Addr) (h:Heap),(K w.params).In h->h.Ns mainGlobals mg->mg d.name=some (.ref fa) ->
   ∃ fd:FuncData,(∀ (s:Shared) (u:Value),BindsTo s fd ⟨[u],[]⟩ [("_law_script",u)])/\∀ base:Heap,(K w.params).In base->base.Ns mainGlobals mg->FnOk l.prog w (K w.params) mg base CX0 19 fa fd ["_law_script"] (spLaw (K w.params))) :
  PySem.W.WalkO q loose XP YP l.row.toRowW d [] (fun f vs=>PySem.call f vs):=
 L2.walk_of (n:=63) (k:=19) (x:="_law_script") (CX:=fun _=>CX0) (sp:=fun w=>spLaw (K w.params)) hn (by decide) hdf ⟨rfl,by decide,by decide,rfl⟩ hY F (fun _ _ a ns hl _ hS=>⟨a,ns,rfl,hS,hl,fun _=>rfl⟩) fun _ _ _ _ _ z=>z
end K52
set_option maxRecDepth 100000 in
set_option maxHeartbeats 0 in
theorem PySem.Challenge.cw_onceroad_k52_winners_of_small_webs_holds : PySem.Challenge.rw_onceroad_k52_winners_of_small_webs.Holds := by
  w_on; o_law
  refine PySem.W.holds_open (q := K52.Q) (loose := []) (Xt := K52.Xt) (XP := PySem.W.XL K52.Q []) (Yf := PySem.W.Hook.obs K52.Hk) (Ya := PySem.W.Hook.val K52.Hk) (YP := PySem.W.Hook.says (PySem.W.kHook K52.Kf K52.ks K52.ks_eq)) (N := K52.NN) K52.hl (PySem.W.Hook.of K52.Hk) (PySem.W.Hook.keeps K52.Hk) (fun s e => PySem.W.xl_of s (Bool.and_eq_true_iff.mp e).1) PySem.W.XL.keeps (by rfl) (by rfl) (by rfl) (fun s e => PySem.W.recFacts_of (Bool.and_eq_true_iff.mp e).2) (by rfl) (by first | assumption | decide +kernel) (by decide +kernel) ⟨rfl, rfl, rfl, rfl, rfl, by decide +kernel⟩ ?hw ?hc
  (case hw => w_witness2)
  k_fill
  refine K52.walk (l := PySem.Challenge.rw_onceroad_k52_winners_of_small_webs) rfl rfl (fun w h Y => PySem.W.kIn_of Y) ?F
  case F =>
    intro w mg fa h KX G hmg
    refine' K52.all_mk KX G hmg ?_ ?_ ?_ ?_ ?_ ?_ ?_ ?_ ?_ ?_ ?_ ?_ ?_ ?_ ?_ ?_ ?_ ?_ ?_ ?_ ?_ ?_ ?_ ?_ ?_ ?_ ?_ ?_ ?_ ?_ ?_ ?_ ?_ ?_ ?_ ?_ ?_ ?_ ?_ ?_ ?_ ?_ ?_ ?_ ?_ ?_ ?_ ?_ ?_ ?_ ?_ ?_ ?_ ?_ ?_ ?_ ?_ ?_ ?_ ?_ ?_ ?_ ?_ ?_ ?_ ?_ ?_ ?_ ?_ ?_ ?_ ?_ ?_ ?_ ?_ ?_ ?_ ?_ ?_ ?_ ?_ ?_ ?_ ?_ ?_ ?_ ?_ ?_ ?_ ?_ ?_ ?_ ?_ ?_ ?_
    any_goals first | k_is | decide
    any_goals first | k_is | decide | exact ⟨_, _, by k_is, L2.fun_mk (by k_is) (by k_is) (by k_is)⟩ | exact ⟨_, _, by k_is, by k_is, L2.fun_mk (by k_is) (by k_is) (by k_is)⟩ | exact ⟨_, _, _, _, _, _, _, _, _, _, _, _, _, _, _, by k_is⟩ | exact ⟨by k_is, by k_is, by k_is, by k_is, by k_is, by k_is, by k_is, by k_is⟩ | kernel_rfl | fail
