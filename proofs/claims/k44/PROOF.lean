import PyProof.Rows.All
import Wide.All
import OpenK.AllK
import Wide.FinOn
import PyProof.EqAt
import PyProof.EqKinds
import PyProof.TupleCall
import Lean
import PySem.Challenge.RW_onceroad_k44_whole_no_pairs_beat_bars
set_option Elab.async false
set_option linter.all false
set_option maxRecDepth 100000
theorem ya {α β:Type} {as:List α} (f:α→β):(as.map f).length=as.length:=List.length_map f
theorem yb {α:Type} {l:List α} {i:Nat} (h:i<l.length):l[i]?=some l[i]:=List.getElem?_eq_getElem h
theorem yc {α:Type} {l:List α} {i:Nat} {a:α}:l[i]?=some a↔∃h:i<l.length,l[i]=a:=List.getElem?_eq_some_iff
theorem yd {α β:Type} {f:α→β} {l:List α} {i:Nat}:(l.map f)[i]?=l[i]?.map f:=List.getElem?_map
theorem ye {α:Type} {l:List α} {i:Nat} {a:α} (h:l[i]?=some a):a∈l:=List.mem_of_getElem? h
theorem yf {α:Type} {a:α} {l:List α} (h:a∈l):∃i:Nat,l[i]?=some a:=List.getElem?_of_mem h
noncomputable abbrev yg:=PySem.W.Frag
theorem yh (n:Nat):n≤n:=Nat.le_refl n
theorem yi {a b c:Nat} (h:a≤b) (k:b≤c):a≤c:=Nat.le_trans h k
theorem yj {a b c:Nat} (h:a<b) (k:b≤c):a<c:=Nat.lt_of_lt_of_le h k
theorem yk {p:Prop} [Decidable p] (h:decide p=true):p:=of_decide_eq_true h
theorem yl {p:Prop} [Decidable p] (h:¬p):decide p=false:=decide_eq_false h
theorem ym {α:Type} {a b:α} (h:some a=some b):a=b:=Option.some.inj h
theorem yn {α β:Type} {f:α→β} {x:Option α} {b:β}:x.map f=some b↔∃a,x=some a∧f a=b:=Option.map_eq_some_iff
theorem yo {α:Type} {a:α} {l:List α}:(a::l).Nodup↔a∉l∧l.Nodup:=List.nodup_cons
theorem yp {α:Type} {p:α→Bool} {as:List α} {x:α}:x∈as.filter p↔x∈as∧p x=true:=List.mem_filter
theorem yq {A B:Prop} (h:B):if false=true then A else B:=h
def yr:=@PySem.wpAny_bind
def yt:=@List.length_append
def yu:=@List.map_append
def yv:=@List.size_toArray
def yw:=@PySem.Heap.get?_push_of_some
def yx:=@PySem.wpAny_pure
def yy:=@List.mem_singleton
def yz:=@List.mem_append
def yA:=@List.length_cons
def yB:=@List.mem_cons
def yC:=@if_neg
def yD:=@PySem.F.plainAttrs_list
def yE:=@Or.inl
def yF:=@if_pos
def yG:=@decide_eq_true
def yH:=@List.take_add_one
def yI:=@List.getElem?_append_right
def yJ:=@List.mem_cons_of_mem
def yK:=@PySem.Heap.lt_size
def yL:=@List.length_take
def yM:=@List.take_length
def yN:=@Nat.ne_of_lt
def yO:=@List.mem_append_right
def yP:=@List.mem_append_left
def yQ:=@List.mem_map
def yR:=@decide_eq_true_iff
def yS:=@List.filter_cons
def yT:=@List.length_filter_le
def yU:=@PySem.Heap.get?_push_size
def yV:=@PySem.PassesOwn.never
def yW:=@List.filter_append
def yX:=@Nat.le_of_lt
def yY:=@List.not_mem_nil
def yZ:=@List.mem_cons_self
def y0:=@PySem.F.slot_list_append
def Yb:=@PySem.F.type_list_append
def Yc:=@List.getElem?_append_left
def Yd:=@Int.toNat_natCast
def Ye:=@Bool.and_eq_true
def Yg:=@List.nodup_append
def Yh:=@Nat.ne_of_gt
def Yi:=@List.append_nil
def Yj:=@List.append_assoc
def Yk:=@List.getD_eq_getElem?_getD
def Yl:=@Bool.false_ne_true
def Ym:=@List.append_of_mem
def Yn:=@Ne.symm
def Yo:=@beq_iff_eq
def Yp:=@decide_eq_decide
def Yq:=@Bool.eq_iff_iff
def Yr:=@Nat.lt_of_le_of_lt
def Ys:=@PySem.wpAny_holding
def Yt:=@List.length_reverse
def Yu:=@Classical.byContradiction
def Yv:=@List.filter_nil
def Yw:=@List.mem_range
def Yx:=@Nat.lt_irrefl
def Yy:=@List.map_cons
def Yz:=@PyProof.Rows.callWith_type1
def YA:=@PySem.boot_len
def YB:=@or_false
def YC:=@PySem.sizeLine_eq
def YD:=@List.length_replicate
def YE:=@List.idxOf_lt_length_of_mem
def YF:=@List.pairwise_map
def YG:=@PySem.W.mg_none_of
def YH:=@Nat.testBit_or
def YI:=@List.take_of_length_le
def YJ:=@beq_eq_false_iff_ne
def YK:=@Nat.zero_le
def YL:=@PySem.F.slot_NoneType_eq
def YM:=@List.length_nil
def YN:=@List.range_succ
def YO:=@PySem.wpAny_truthy_bool
def YQ:=@True.intro
def YR:=@Nat.testBit_two_pow
def YS:=@PySem.wpAny_of_eq
def YT:=@PyProof.Rows.boot_isinstance
def YU:=@PySem.Heap.get?_update_self
def YV:=@PySem.wpAny_mono
def YW:=@List.all_eq_true
def YX:=@List.any_eq_true
def YY:=@List.getElem_idxOf
def Y0:=@List.getElem_mem
def Y1:=@Option.isSome_iff_exists
def Y2:=@List.length_erase_of_mem
def Y3:=@List.Pairwise.imp_of_mem
def Y4:=@PySem.W.looks_findIn
def Y5:=@Nat.pow_lt_pow_right
def Y6:=@PySem.F.slot_list_index
def Y7:=@Nat.or_lt_two_pow
def Y8:=@List.filter_congr
def Y9:=@List.pairwise_singleton
def xi:=@Bool.or_eq_true
def xj:=@List.dropLast_concat_getLast
def xk:=@List.replicate_succ
def xl:=@Array.getElem?_eq_none
def xm:=@List.length_pos_of_mem
def xn:=@Sum.inr.inj
def xo:=@List.cons.inj
def xp:=@List.mem_flatMap
def xq:=@PySem.Heap.size_push
def xr:=@List.lookup_append
def xt:=@Array.getElem?_toList
def xu:=@Array.getElem?_eq_getElem
def xv:=@List.pairwise_iff_getElem
def xw:=@PySem.wpAny_passesOwn
def xx:=@List.length_set
def xy:=@List.find?_cons
def xz:=@List.getElem?_set_ne
def xA:=@Option.isSome_map
def xB:=@Nat.zero_add
def xC:=@List.length_range
def xD:=@PySem.wpAny_getItem_list_slice
def xE:=@PySem.F.slot_list_extend
def xF:=@PySem.F.type_list_extend
def xG:=@PyProof.Rows.slot_tuple_getitem
def xH:=@Array.length_toList
def xI:=@PySem.mem_of_lookup
def xJ:=@PySem.W.looks_mroIn
def xK:=@List.flatMap_append
def xL:=@List.mem_map_of_mem
def xM:=@PySem.W.any_some
def xN:=@List.getElem?_replicate
def xO:=@List.lookup_cons
def xP:=@beq_self_eq_true
def xQ:=@PySem.wpAny_getItem_str_slice
def xR:=@Nat.le_add_right
def xS:=@PySem.F.type_list_index
def xT:=@List.length_tail
def xU:=@PySem.wpAny_field
def xV:=@PySem.tupleKind_room_in1
def xW:=@Bool.false_eq_true
def xX:=@Int.zero_add
def xY:=@List.getElem?_tail
def xZ:=@Int.emod_lt_of_pos
def x0:=@Prod.ext
def x6:=@List.any_cons
def Xa:=@PyProof.Rows.boot_list
def Xb:=@List.mem_iff_getElem?
def Xc:=@PySem.wpAny_newObj_type
def Xd:=@PySem.slot_list_getitem
def Xe:=@List.flatten_cons
def Xf:=@Nat.lt_trichotomy
def Xg:=@Nat.le_succ
def Xh:=@PySem.codeAny_call_builtin
def Xi:=@List.getLast?_append
def Xj:=@Nat.mod_two_eq_zero_or_one
def Xk:=@Nat.lt_succ_self
def Xl:=@List.length_drop
def Xm:=@List.map_map
def Xn:=@List.filterMap_cons
def Xo:=@PySem.F.plain_extend_loop
def Xp:=@PySem.Heap.SameBut.update
def Xq:=@List.getElem_of_mem
def Xr:=@Prod.mk.injEq
def Xs:=@Int.emod_nonneg
def Xu:=@PySem.wpAny_Call_Name_kw
def Xv:=@PySem.Heap.IsSliceOf.new
def Xw:=@Or.inr
def Xx:=@PySem.wpAny_callSpecial?_slot
def Xy:=@List.take_sublist
def Xz:=@if_true
def XA:=@PySem.Calls.callWith_builtin
def XB:=@Nat.lt_trans
def XC:=@PySem.wpAny_pyIter_list
def XD:=@PySem.wpAny_nextOf_list_item
def XE:=@Bool.not_eq_true'
def XF:=@PySem.F.slot_dict_get
def XG:=@List.take_append_drop
def XH:=@PySem.F.slot_list_pop
def XI:=@PySem.F.type_list_pop
def XJ:=@PySem.wpAny_call_entry
def XM:=@PySem.call_meets
def XR:=@Nat.lt_of_not_le
def XS:=@List.mem_reverse
def XT:=@List.all_cons
def XU:=@if_false
def XV:=@List.mem_erase_of_ne
def XW:=@PySem.wpAny_execs_nil
def XX:=@PySem.SeqAt.EqAt.same
def XY:=@Option.map_some
def XZ:=@PySem.post_val_or_str
def X0:=@PySem.F.slot_zip_next
def X1:=@PySem.wpAny_updateSeq
def X2:=@List.all_append
def X3:=@Nat.le_antisymm
def X4:=@Nat.testBit_and
def X5:=@List.filter_map
def X6:=@PySem.W.plainGet_of
def X7:=@PySem.W.looks_clsIn
def X8:=@List.filter_sublist
def X9:=@Nat.le_of_eq
def kc:=@PySem.Calls.spliced_cons
def ke:=@PySem.wpAny_call
def kf:=@PySem.W.callWith_K
def kg:=@List.Perm.refl
def kh:=@PySem.Calls.spliced_nil
def ki:=@Nat.le_succ_of_le
def kj:=@List.reverse_perm
def km:=@decide_eq_true_eq
def kn:=@PySem.evalPart_none
def ko:=@Bool.or_false
def kq:=@PySem.wpAny_attempt
def ku:=@List.sum_cons
def kx:=@List.map_tail
def ky:=@Nat.min_le_right
def kz:=@List.cons_append
def kA:=@PySem.wpAny_askSetting
def kB:=@Nat.min_eq_right
def kC:=@PySem.wpAny_pyIter_zip
def kD:=@List.cons_ne_nil
def kE:=@List.map_reverse
def kF:=@PySem.codeAny_mono
def kG:=@List.all_map
def kH:=@PySem.Txt.slice_le
def kI:=@Nat.sub_self
def kJ:=@List.of_mem_zip
def kK:=@List.forIn_cons
def kL:=@Nat.min_eq_left
def kM:=@Int.natCast_pow
def kN:=@Nat.testBit_xor
def kO:=@List.forIn_nil
def kP:=@List.nodup_nil
def kQ:=@List.map_take
def kR:=@decide_false
def kS:=@Nat.sub_zero
def kU:=@List.any_map
namespace L2
open PySem PySem.Spec PyProof.Rows
noncomputable def qW (s:Stmt) (j:Nat):Stmt:=match s with
 | .ClassDef _ _ _ body _ _ _ _ _ _ _=>body.getD j (.Pass ⟨0,0,0,0⟩)
 | _=>.Pass ⟨0,0,0,0⟩
noncomputable def qaq (s:Stmt):Arguments:=match s with
 | .FunctionDef _ a _ _ _ _ _ _ _ _=>a
 | _=>{ posonlyargs:=[],args:=[],vararg:=none,kwonlyargs:=[],kw_defaults:=[],kwarg:=none,defaults:=[] }
noncomputable def zR (s:Stmt):List Stmt:=match s with
 | .FunctionDef _ _ b _ _ _ _ _ _ _=>b
 | _=>[]
noncomputable def qg (s:Stmt):Scope:=match s with
 | .FunctionDef _ _ _ _ _ _ sc _ _ _=>sc
 | _=>{ kind:=.function,names:=[],isGenerator:=false,isCoroutine:=false }
end L2
namespace K44
open PySem L2 PyProof.Rows
noncomputable def top (i:Nat):Stmt:=PySem.Challenge.pw_onceroad_k44_whole_no_pairs_beat_bars.main.body.getD i (.Pass ⟨0,0,0,0⟩)
noncomputable abbrev zU:Stmt:=top 42
noncomputable abbrev qaG:Stmt:=top 47
noncomputable abbrev qah:Stmt:=top 48
noncomputable abbrev jx:Stmt:=top 49
noncomputable abbrev zh:Stmt:=top 50
noncomputable abbrev qai:Stmt:=qW (top 46) 0
noncomputable abbrev qaI:Stmt:=top 51
noncomputable abbrev zl:Stmt:=qW (top 46) 1
noncomputable abbrev jB:Stmt:=qW (top 46) 4
noncomputable abbrev jC:Stmt:=qW (top 46) 6
noncomputable abbrev zm:Stmt:=qW (top 46) 7
noncomputable abbrev jp:Stmt:=qW (top 46) 8
noncomputable abbrev qaj:Stmt:=qW (top 46) 9
noncomputable abbrev jv:Stmt:=qW (top 46) 12
noncomputable abbrev zo:Stmt:=qW (top 46) 10
noncomputable abbrev jQ:Stmt:=top 52
noncomputable abbrev qak:Stmt:=qW (top 46) 2
noncomputable abbrev zI:Stmt:=top 12
noncomputable abbrev j4:Stmt:=qW (top 46) 5
noncomputable abbrev j5:Stmt:=top 13
noncomputable abbrev jR:Stmt:=qW (top 17) 6
noncomputable abbrev qO:Stmt:=qW (top 17) 9
noncomputable abbrev jc:Stmt:=qW (top 17) 10
noncomputable abbrev jE:Stmt:=qW (top 17) 11
noncomputable abbrev qH:Stmt:=qW (top 17) 8
noncomputable abbrev jd:Stmt:=qW (top 17) 7
noncomputable abbrev j6:Stmt:=qW (top 17) 5
noncomputable abbrev j7:Stmt:=qW (top 17) 0
noncomputable abbrev zr:Stmt:=qW (top 17) 1
noncomputable abbrev jj:Stmt:=qW (top 17) 2
noncomputable abbrev jV:Stmt:=top 14
noncomputable abbrev jh:Stmt:=top 20
noncomputable abbrev qa9:Stmt:=top 19
noncomputable abbrev qU:Stmt:=top 21
noncomputable abbrev qal:Stmt:=top 22
noncomputable abbrev qaL:Stmt:=top 23
noncomputable abbrev jF:Stmt:=top 26
noncomputable abbrev qam:Stmt:=top 25
noncomputable abbrev qbb:Stmt:=top 54
noncomputable abbrev qaM:Stmt:=top 55
noncomputable abbrev qbc:Stmt:=top 56
noncomputable abbrev qbd:Stmt:=top 59
noncomputable abbrev zW:Stmt:=top 57
noncomputable abbrev qbe:Stmt:=top 58
noncomputable abbrev qbf:Stmt:=top 60
noncomputable abbrev qbg:Stmt:=top 61
noncomputable abbrev qaN:Stmt:=top 64
noncomputable abbrev qaO:Stmt:=top 63
noncomputable abbrev j9:Stmt:=top 62
noncomputable abbrev jq:Stmt:=qW (top 46) 13
noncomputable abbrev zY:Stmt:=top 15
noncomputable abbrev jG:Stmt:=top 34
noncomputable abbrev jW:Stmt:=top 35
noncomputable abbrev qaQ:Stmt:=top 36
noncomputable abbrev qcf:Stmt:=top 28
noncomputable abbrev zB:Stmt:=top 29
noncomputable abbrev qcg:Stmt:=top 30
noncomputable abbrev qdO:Stmt:=top 31
noncomputable abbrev jH:Stmt:=top 32
noncomputable abbrev qan:Stmt:=top 37
noncomputable abbrev qch:Stmt:=top 38
noncomputable abbrev qbi:Stmt:=top 39
noncomputable abbrev zt:Stmt:=top 67
noncomputable abbrev zK:Stmt:=top 68
noncomputable abbrev qaS:Stmt:=top 65
noncomputable abbrev qao:Stmt:=top 66
noncomputable abbrev qbG:Stmt:=top 69
noncomputable abbrev qcP:Stmt:=top 70
end K44
namespace Hd
open PySem PySem.W PySem.Calls PyProof.Rows
variable {p:Program} {α:Type}
noncomputable def qfi (tb:String->Option Builtin) (p:Program) (w:World) (n₀:Nat) (ann:Option Value):Nat->SharedT->Thread->Option SharedT
 | 0,_,_=>none
 | n + 1,s,t=>match through t with
  | true=>some s
  | false=>match stepOk n₀ ann t with
   | false=>none
   | true=>match stepT (denote tb) p w s t with
    | some (s',t')=>qfi tb p w n₀ ann n s' t'
    | none=>none
theorem qeY {tb:String->Option Builtin} {w:World} {n₀:Nat} {ann:Option Value}:∀ {n:Nat} {s s':SharedT} {t:Thread},qfi tb p w n₀ ann n s t=some s'->topRun tb p w n₀ ann n s.abs t=some s'.abs
 | 0,_,_,_,h=>by cases h
 | n + 1,s,s',t,h=>by
  unfold qfi at h;unfold topRun
  cases he:through t with
  | true=>rw [he] at h;cases h;rfl
  | false =>
   rw [he] at h
   cases hk:stepOk n₀ ann t with
   | false=>rw [hk] at h;cases h
   | true =>
    rw [hk] at h
    cases hs:stepT (denote tb) p w s t with
    | none=>rw [hs] at h;cases h
    | some r=>obtain ⟨s₂,t₂⟩:=r;rw [hs] at h;rw [stepT_spec hs];exact qeY h
noncomputable def qdi:List Obj->Nat->BT->BT
 | [],_,t=>t
 | o::r,n,t=>qdi r (n + 1) (t.ins n o)
noncomputable def qeu (P:Params) (os:OsState):SharedT:=⟨qdi (boot_heap P).objs.toList 0 .nil,(boot_heap P).objs.size,(boot_heap P).life,Array.mk [],boot_drawn,boot_toks,os⟩
theorem boot_abs (P:Params):absHeap (qdi (boot_heap P).objs.toList 0 .nil) (boot_heap P).objs.size (boot_heap P).life=boot_heap P:=by kernel_rfl
noncomputable def qeH (p q:Program) (Xt:Shared->Bool) {α:Type} (Yf:Shared->α) (N:Nat) (w:World) (os:OsState):=match (boot_heap w.params).isNs mainGlobals&&(Array.mk []:Array GenState).size==0 with
 | true=>(qfi treeTable p w (boot_heap w.params).objs.size ((boot_heap w.params).nsMap mainGlobals "__annotations__") N (qeu w.params os) (topStub p)).bind fun s=>match staticsOk (importedModules p.main.body) (boot_heap w.params) s.abs.heap&&namesBound p s.abs.heap&&gensDone s.abs&&laidKept (boot_heap w.params) s.abs.heap with
   | true=>some (openSeen q [] (importedModules p.main.body) Xt true s.abs,Yf s.abs)
   | false=>none
 | false=>none
noncomputable def lookS (p:Program) (N:Nat) (w:World) (os:OsState):Option Shared:=match (boot_heap w.params).isNs mainGlobals&&(Array.mk []:Array GenState).size==0 with
 | true=>(qfi treeTable p w (boot_heap w.params).objs.size ((boot_heap w.params).nsMap mainGlobals "__annotations__") N (qeu w.params os) (topStub p)).bind fun s=>match staticsOk (importedModules p.main.body) (boot_heap w.params) s.abs.heap&&namesBound p s.abs.heap&&gensDone s.abs&&laidKept (boot_heap w.params) s.abs.heap with
   | true=>some s.abs
   | false=>none
 | false=>none
theorem lookT_map (p q:Program) (Xt:Shared->Bool) (Yf:Shared->α) (N:Nat) (w:World) (os:OsState):qeH p q Xt Yf N w os=(lookS p N w os).map fun s=>(openSeen q [] (importedModules p.main.body) Xt true s,Yf s):=by
 unfold qeH lookS
 cases (boot_heap w.params).isNs mainGlobals&&(Array.mk []:Array GenState).size==0 with
 | false=>rfl
 | true =>
  dsimp only
  cases qfi treeTable p w (boot_heap w.params).objs.size ((boot_heap w.params).nsMap mainGlobals "__annotations__") N (qeu w.params os) (topStub p) with
  | none=>rfl
  | some s =>
   show (match _ with | true=>_ | false=>_)=Option.map _ (match _ with | true=>_ | false=>_);cases staticsOk (importedModules p.main.body) (boot_heap w.params) s.abs.heap&&namesBound p s.abs.heap&&gensDone s.abs&&laidKept (boot_heap w.params) s.abs.heap<;>rfl
theorem packs {σ A B C D E Y:Type} {o:Option σ} {f:σ->A×B×C×D×E} {g:σ->Y} {x:A×B×C×D×E} {y:Y} (h1:o.map (fun s=>((f s).1,(f s).2.1,(f s).2.2.1,(f s).2.2.2.1))=some (x.1,x.2.1,x.2.2.1,x.2.2.2.1)) (h2:o.map (fun s=>(f s).2.2.2.2)=some x.2.2.2.2) (h3:o.map g=some y):o.map (fun s=>(f s,g s))=some (x,y):=by
 cases o with
 | none=>cases h3
 | some s =>
  have e1:=ym h1;have e2:=ym h2;have e3:=ym h3;have k1:=congrArg Prod.fst e1;have k2:=congrArg (fun z=>z.2.1) e1;have k3:=congrArg (fun z=>z.2.2.1) e1;have k4:=congrArg (fun z=>z.2.2.2) e1;exact congrArg some (x0 (x0 k1 (x0 k2 (x0 k3 (x0 k4 e2)))) e3)
theorem left_of {q:Program} {Xt:Shared->Bool} {Yf:Shared->α} {Ya:World->α} {N:Nat} (e:opening p=plainProg p.main.scope.names) (hN:Nat.ble 600 N=true) (f:∀ s,fenceModules? p s=some s)
  (h:∀ w os,qeH p q Xt Yf N w os=some (openGood q [],Ya w)):LeftO p q [] Xt Yf Ya N:=fun w=>by
 obtain ⟨⟨h0,gs,d,k,os⟩,e1,e2⟩:=yn.mp (boot_open e hN f w);obtain ⟨rfl,rfl,rfl,rfl⟩:h0=boot_heap w.params/\gs=Array.mk []/\d=boot_drawn/\k=boot_toks:=by simpa using e2
 have hh:=h w os;unfold qeH at hh;unfold openEnds;rw [e1];show (topFrom treeTable p w N _).map _=_;unfold topFrom;dsimp only;split at hh
 ·rename_i z
  rw [z];obtain ⟨s,hs,q2⟩:=Option.bind_eq_some_iff.mp hh;have r:=qeY hs
  have ba:(qeu w.params os).abs=⟨boot_heap w.params,Array.mk [],boot_drawn,boot_toks,os⟩:=by
   unfold qeu SharedT.abs;dsimp only;rw [boot_abs]
  rw [ba] at r;dsimp only;rw [r];split at q2
  ·rename_i z2
   show ((match staticsOk (importedModules p.main.body) (boot_heap w.params) s.abs.heap&&namesBound p s.abs.heap&&gensDone s.abs&&laidKept (boot_heap w.params) s.abs.heap with | true=>some s.abs | false=>none):Option Shared).map _=_;rw [z2];exact q2
  ·cases q2
 ·cases hh
end Hd
namespace K44
open PySem L2 PyProof.Rows PySem.W
noncomputable abbrev NN:Nat:=20000
noncomputable def Q:Program:=view PySem.Challenge.pw_onceroad_k44_whole_no_pairs_beat_bars [0,2,3,4,5,6,7,8,9,10,12,13,14,15,17,19,20,21,22,23,25,26,28,29,30,31,32,34,35,36,37,38,39,41,42,44,45,46,47,48,49,50,51,52,54,55,56,57,58,59,60,61,62,63,64,65,66,67,68,69,70]
noncomputable def en (P:Params) (t:Tok) (v:Value) (k:Str):DictEntry:=⟨PyData.keyHash P k,.str k t,v⟩
noncomputable def cO (t ln ac r:Nat) (x y z v:Value) (e u:Nat) (q n:Str):Obj:=⟨.type "code",none,.fields #[.str n t,.str q (t + 1),.str "/claim/cut.py" (t + 2),.int ln 0,.int ac 0,.int 0 0,.int 0 0,.int 3 0,.ref r,.bool true,.int 181 0,x,y,z,v,.ref e,.int u 0,.int ln 0,.str "/claim/cut.py" (u + 1)],#[]⟩
noncomputable def cE (t ln ac r:Nat) (x y z v:Value) (e u:Nat) (n:Str):Obj:=cO t ln ac r x y z v e u n n
noncomputable def fO (k c:Nat) (s:Stmt) (m q n:Str):Obj:=⟨.type "function",none,.func (fnOf n q (qaq s) (zR s) (qg s) .none .none .none (.str m k) none (.ref c) .none),#[]⟩
noncomputable def fE (k c:Nat) (s:Stmt) (m n:Str):Obj:=fO k c s m n n
noncomputable def Kf (P:Params):Frag:=
 (nat_lit 2,(⟨.none,none,.dict #[] 0,#[]⟩:Obj)) ::
 (nat_lit 3,(⟨(.type "dict"),none,.dict #[en P 165 (.str "law_onceroad_k44_whole_no_pairs_beat_bars" 973) "__name__",en P 166 .none "__doc__",en P 167 .none "__package__",en P 168 (.builtin "__main__.__loader__#opaque") "__loader__",en P 169 .none "__spec__",en P 170 (.ref 6) "__annotations__",en P 171 (.ref 4) "__builtins__",en P 173 (.str "/claim/cut.py" 172) "__file__",en P 174 .none "__cached__",en P 193 (.ref 21) "_wall",en P 221 (.ref 38) "OnceError",en P 246 (.ref 58) "NoName",en P 271 (.ref 77) "Twice",en P 296 (.ref 96) "NoPlace",en P 321 (.ref 115) "NoTie",en P 346 (.ref 134) "TooMany",en P 371 (.ref 153) "NoPairs",en P 396 (.ref 172) "NoRow",en P 421 (.ref 191) "NoBar",en P 433 (.ref 200) "are_pairs",en P 443 (.ref 207) "partners_in",en P 449 (.ref 212) "told_pairs",en P 455 (.ref 217) "singles",en P 585 (.ref 305) "Forest",en P 597 (.ref 316) "is_row",en P 607 (.ref 323) "are_unlike_places",en P 613 (.ref 328) "goes_by_turns",en P 625 (.ref 335) "can_turn",en P 631 (.ref 340) "turned",en P 640 (.ref 347) "greatest",en P 651 (.ref 354) "greatest_from",en P 663 (.ref 361) "sorts",en P 669 (.ref 366) "word_for",en P 676 (.ref 373) "loose",en P 683 (.ref 380) "held",en P 689 (.ref 385) "places_with",en P 699 (.ref 392) "pieces_beside",en P 705 (.ref 397) "odd_pieces",en P 713 (.ref 404) "lack_of",en P 720 (.ref 411) "paper_of",en P 728 (.ref 418) "shows",en P 736 (.ref 425) "is_bar",en P 740 (.int 6 739) "LONGEST_NAME",en P 746 (.ref 430) "is_name",en P 750 (.int 14 749) "MOST_PLACES",en P 752 (.int 30 751) "MOST_TIES",en P 914 (.ref 555) "Web",en P 922 (.ref 566) "has_bit",en P 930 (.ref 573) "is_place",en P 939 (.ref 580) "are_two_places",en P 948 (.ref 587) "numbers_of",en P 960 (.ref 594) "near_of",en P 972 (.ref 601) "piece_around",en P 982 (.ref 608) "_law_cell",en P 989 (.ref 615) "_law_purse",en P 999 (.ref 622) "_law_take",en P 1005 (.ref 627) "_law_names",en P 1019 (.ref 634) "_law_ties",en P 1027 (.ref 641) "_law_many",en P 1038 (.ref 648) "_law_made",en P 1049 (.ref 655) "_law_bits",en P 1055 (.ref 660) "_law_pieces",en P 1061 (.ref 665) "_law_some",en P 1067 (.ref 670) "_law_room",en P 1080 (.ref 677) "_law_named",en P 1086 (.ref 682) "_law_lack",en P 1096 (.ref 689) "_law_shuffled",en P 1109 (.ref 696) "_law_fitting",en P 1115 (.ref 701) "_law_one",en P 1121 (.ref 706) "law"] 70,#[]⟩:Obj)) ::
 (nat_lit 199,cE 424 50 2 194 (.ref 195) .none (.ref 196) (.ref 197) 198 431 "are_pairs") ::
 (nat_lit 200,fE 422 199 zI "onceroad.pairs" "are_pairs") ::
 (nat_lit 206,cE 434 60 2 201 (.ref 202) .none (.ref 203) (.ref 204) 205 441 "partners_in") ::
 (nat_lit 207,fE 422 206 j5 "onceroad.pairs" "partners_in") ::
 (nat_lit 211,cE 444 68 2 208 (.ref 209) .none .none .none 210 447 "told_pairs") ::
 (nat_lit 212,fE 422 211 jV "onceroad.pairs" "told_pairs") ::
 (nat_lit 216,cE 450 71 2 213 (.ref 214) .none .none .none 215 453 "singles") ::
 (nat_lit 217,fE 422 216 zY "onceroad.pairs" "singles") ::
 (nat_lit 230,cO 470 77 3 225 (.ref 226) .none (.ref 227) (.ref 228) 229 476 "Forest.__init__" "__init__") ::
 (nat_lit 231,fO 456 230 j7 "onceroad.forests" "Forest.__init__" "__init__") ::
 (nat_lit 237,cO 479 88 1 232 (.ref 233) .none (.ref 234) (.ref 235) 236 483 "Forest.row" "row") ::
 (nat_lit 238,fO 456 237 zr "onceroad.forests" "Forest.row" "row") ::
 (nat_lit 242,cO 486 91 1 239 (.ref 240) .none .none .none 241 489 "Forest.reached" "reached") ::
 (nat_lit 243,fO 456 242 jj "onceroad.forests" "Forest.reached" "reached") ::
 (nat_lit 263,cO 507 102 1 258 (.ref 259) .none (.ref 260) (.ref 261) 262 512 "Forest.grow" "grow") ::
 (nat_lit 264,fO 456 263 j6 "onceroad.forests" "Forest.grow" "grow") ::
 (nat_lit 270,cO 515 110 3 265 (.ref 266) .none (.ref 267) (.ref 268) 269 521 "Forest.reach" "reach") ::
 (nat_lit 271,fO 456 270 jR "onceroad.forests" "Forest.reach" "reach") ::
 (nat_lit 277,cO 524 114 2 272 (.ref 273) .none (.ref 274) (.ref 275) 276 531 "Forest.look_around" "look_around") ::
 (nat_lit 278,fO 456 277 jd "onceroad.forests" "Forest.look_around" "look_around") ::
 (nat_lit 282,cO 534 125 3 279 (.ref 280) .none .none .none 281 537 "Forest.bring_together" "bring_together") ::
 (nat_lit 283,fO 456 282 qH "onceroad.forests" "Forest.bring_together" "bring_together") ::
 (nat_lit 289,cO 540 136 2 284 (.ref 285) .none (.ref 286) (.ref 287) 288 547 "Forest.bases_down_from" "bases_down_from") ::
 (nat_lit 290,fO 456 289 qO "onceroad.forests" "Forest.bases_down_from" "bases_down_from") ::
 (nat_lit 296,cO 550 143 4 291 (.ref 292) .none (.ref 293) (.ref 294) 295 561 "Forest.reach_round" "reach_round") ::
 (nat_lit 297,fO 456 296 jc "onceroad.forests" "Forest.reach_round" "reach_round") ::
 (nat_lit 301,cO 564 152 3 298 (.ref 299) .none .none .none 300 567 "Forest.fold" "fold") ::
 (nat_lit 302,fO 456 301 jE "onceroad.forests" "Forest.fold" "fold") ::
 (nat_lit 304,(⟨(.type "dict"),none,.dict #[en P 465 (.str "onceroad.forests" 456) "__module__",en P 469 (.int 75 468) "__firstlineno__",en P 478 (.ref 231) "__init__",en P 485 (.ref 238) "row",en P 491 (.ref 243) "reached",en P 499 (.ref 250) "row_to",en P 506 (.ref 257) "folds",en P 514 (.ref 264) "grow",en P 523 (.ref 271) "reach",en P 533 (.ref 278) "look_around",en P 539 (.ref 283) "bring_together",en P 549 (.ref 290) "bases_down_from",en P 563 (.ref 297) "reach_round",en P 569 (.ref 302) "fold",en P 578 (.ref 303) "__static_attributes__",en P 580 (.ref 306) "__dict__",en P 582 (.ref 307) "__weakref__",en P 583 .none "__doc__"] 4,#[]⟩:Obj)) ::
 (nat_lit 305,(⟨(.type "type"),none,.cls { name:="Forest",bases:=[(.type "object")],mro:=[(.ref 305),(.type "object")],ns:=304,qualname:="Forest",hasDict:=true,slotNames:=[],subclasses:=[],abstract:=false,collection:=none,hasDel:=false },#[none,none,(some (.str "Forest" 458)),(some (.str "Forest" 466)),(some (.builtin "object.__new__")),(some (.bool true))]⟩:Obj)) ::
 (nat_lit 315,cE 588 158 3 310 (.ref 311) .none (.ref 312) (.ref 313) 314 595 "is_row") ::
 (nat_lit 316,fE 586 315 qa9 "onceroad.rows" "is_row") ::
 (nat_lit 322,cE 598 163 2 317 (.ref 318) .none (.ref 319) (.ref 320) 321 605 "are_unlike_places") ::
 (nat_lit 323,fE 586 322 jh "onceroad.rows" "are_unlike_places") ::
 (nat_lit 327,cE 608 172 3 324 (.ref 325) .none .none .none 326 611 "goes_by_turns") ::
 (nat_lit 328,fE 586 327 qU "onceroad.rows" "goes_by_turns") ::
 (nat_lit 334,cE 614 178 3 329 (.ref 330) .none (.ref 331) (.ref 332) 333 623 "can_turn") ::
 (nat_lit 335,fE 586 334 qal "onceroad.rows" "can_turn") ::
 (nat_lit 339,cE 626 185 3 336 (.ref 337) .none .none .none 338 629 "turned") ::
 (nat_lit 340,fE 586 339 qaL "onceroad.rows" "turned") ::
 (nat_lit 346,cE 634 192 1 341 (.ref 342) .none (.ref 343) (.ref 344) 345 638 "greatest") ::
 (nat_lit 347,fE 632 346 qam "onceroad.greatest" "greatest") ::
 (nat_lit 353,cE 641 194 2 348 (.ref 349) .none (.ref 350) (.ref 351) 352 649 "greatest_from") ::
 (nat_lit 354,fE 632 353 jF "onceroad.greatest" "greatest_from") ::
 (nat_lit 360,cE 654 204 1 355 (.ref 356) .none (.ref 357) (.ref 358) 359 661 "sorts") ::
 (nat_lit 361,fE 652 360 qcf "onceroad.sorts" "sorts") ::
 (nat_lit 365,cE 664 210 3 362 (.ref 363) .none .none .none 364 667 "word_for") ::
 (nat_lit 366,fE 652 365 zB "onceroad.sorts" "word_for") ::
 (nat_lit 372,cE 670 214 1 367 (.ref 368) .none (.ref 369) (.ref 370) 371 674 "loose") ::
 (nat_lit 373,fE 652 372 qcg "onceroad.sorts" "loose") ::
 (nat_lit 379,cE 677 216 1 374 (.ref 375) .none (.ref 376) (.ref 377) 378 681 "held") ::
 (nat_lit 380,fE 652 379 qdO "onceroad.sorts" "held") ::
 (nat_lit 384,cE 684 218 2 381 (.ref 382) .none .none .none 383 687 "places_with") ::
 (nat_lit 385,fE 652 384 jH "onceroad.sorts" "places_with") ::
 (nat_lit 391,cE 692 222 2 386 (.ref 387) .none (.ref 388) (.ref 389) 390 697 "pieces_beside") ::
 (nat_lit 392,fE 690 391 jG "onceroad.bars" "pieces_beside") ::
 (nat_lit 396,cE 700 226 2 393 (.ref 394) .none .none .none 395 703 "odd_pieces") ::
 (nat_lit 397,fE 690 396 jW "onceroad.bars" "odd_pieces") ::
 (nat_lit 403,cE 706 228 2 398 (.ref 399) .none (.ref 400) (.ref 401) 402 711 "lack_of") ::
 (nat_lit 404,fE 690 403 qaQ "onceroad.bars" "lack_of") ::
 (nat_lit 410,cE 714 230 1 405 (.ref 406) .none (.ref 407) (.ref 408) 409 718 "paper_of") ::
 (nat_lit 411,fE 690 410 qan "onceroad.bars" "paper_of") ::
 (nat_lit 417,cE 721 232 2 412 (.ref 413) .none (.ref 414) (.ref 415) 416 726 "shows") ::
 (nat_lit 418,fE 690 417 qch "onceroad.bars" "shows") ::
 (nat_lit 424,cE 729 238 2 419 (.ref 420) .none (.ref 421) (.ref 422) 423 734 "is_bar") ::
 (nat_lit 425,fE 690 424 qbi "onceroad.bars" "is_bar") ::
 (nat_lit 429,cE 741 242 1 426 (.ref 427) .none .none .none 428 744 "is_name") ::
 (nat_lit 430,fE 737 429 zU "onceroad.names" "is_name") ::
 (nat_lit 443,cO 765 251 3 438 (.ref 439) .none (.ref 440) (.ref 441) 442 771 "Web.__init__" "__init__") ::
 (nat_lit 444,fO 747 443 qai "onceroad.webs" "Web.__init__" "__init__") ::
 (nat_lit 450,cO 774 256 1 445 (.ref 446) .none (.ref 447) (.ref 448) 449 778 "Web.places" "places") ::
 (nat_lit 451,fO 747 450 zl "onceroad.webs" "Web.places" "places") ::
 (nat_lit 457,cO 781 259 1 452 (.ref 453) .none (.ref 454) (.ref 455) 456 788 "Web.ties" "ties") ::
 (nat_lit 458,fO 747 457 qak "onceroad.webs" "Web.ties" "ties") ::
 (nat_lit 471,cO 798 270 2 466 (.ref 467) .none (.ref 468) (.ref 469) 470 803 "Web.has_place" "has_place") ::
 (nat_lit 472,fO 747 471 jB "onceroad.webs" "Web.has_place" "has_place") ::
 (nat_lit 478,cO 806 273 2 473 (.ref 474) .none (.ref 475) (.ref 476) 477 811 "Web.has_tie" "has_tie") ::
 (nat_lit 479,fO 747 478 j4 "onceroad.webs" "Web.has_tie" "has_tie") ::
 (nat_lit 485,cO 814 276 2 480 (.ref 481) .none (.ref 482) (.ref 483) 484 819 "Web.number_of" "number_of") ::
 (nat_lit 486,fO 747 485 jC "onceroad.webs" "Web.number_of" "number_of") ::
 (nat_lit 492,cO 822 281 2 487 (.ref 488) .none (.ref 489) (.ref 490) 491 827 "Web.beside" "beside") ::
 (nat_lit 493,fO 747 492 zm "onceroad.webs" "Web.beside" "beside") ::
 (nat_lit 499,cO 830 284 2 494 (.ref 495) .none (.ref 496) (.ref 497) 498 835 "Web.bits_beside" "bits_beside") ::
 (nat_lit 500,fO 747 499 jp "onceroad.webs" "Web.bits_beside" "bits_beside") ::
 (nat_lit 506,cO 838 287 3 501 (.ref 502) .none (.ref 503) (.ref 504) 505 845 "Web.tied" "tied") ::
 (nat_lit 507,fO 747 506 qaj "onceroad.webs" "Web.tied" "tied") ::
 (nat_lit 513,cO 848 291 1 508 (.ref 509) .none (.ref 510) (.ref 511) 512 856 "Web.pieces" "pieces") ::
 (nat_lit 514,fO 747 513 zo "onceroad.webs" "Web.pieces" "pieces") ::
 (nat_lit 525,cO 866 304 2 522 (.ref 523) .none .none .none 524 869 "Web.names_in" "names_in") ::
 (nat_lit 526,fO 747 525 jv "onceroad.webs" "Web.names_in" "names_in") ::
 (nat_lit 530,cO 872 307 2 527 (.ref 528) .none .none .none 529 875 "Web.without" "without") ::
 (nat_lit 531,fO 747 530 jq "onceroad.webs" "Web.without" "without") ::
 (nat_lit 554,(⟨(.type "dict"),none,.dict #[en P 760 (.str "onceroad.webs" 747) "__module__",en P 764 (.int 249 763) "__firstlineno__",en P 773 (.ref 444) "__init__",en P 780 (.ref 451) "places",en P 790 (.ref 458) "ties",en P 797 (.ref 465) "how_many",en P 805 (.ref 472) "has_place",en P 813 (.ref 479) "has_tie",en P 821 (.ref 486) "number_of",en P 829 (.ref 493) "beside",en P 837 (.ref 500) "bits_beside",en P 847 (.ref 507) "tied",en P 858 (.ref 514) "pieces",en P 865 (.ref 521) "told",en P 871 (.ref 526) "names_in",en P 877 (.ref 531) "without",en P 885 (.ref 538) "with_place",en P 894 (.ref 545) "with_tie",en P 903 (.ref 552) "without_tie",en P 907 (.ref 553) "__static_attributes__",en P 909 (.ref 556) "__dict__",en P 911 (.ref 557) "__weakref__",en P 912 .none "__doc__"] 4,#[]⟩:Obj)) ::
 (nat_lit 555,(⟨(.type "type"),none,.cls { name:="Web",bases:=[(.type "object")],mro:=[(.ref 555),(.type "object")],ns:=554,qualname:="Web",hasDict:=true,slotNames:=[],subclasses:=[],abstract:=false,collection:=none,hasDel:=false },#[none,none,(some (.str "Web" 753)),(some (.str "Web" 761)),(some (.builtin "object.__new__")),(some (.bool true))]⟩:Obj)) ::
 (nat_lit 565,cE 915 325 2 560 (.ref 561) .none (.ref 562) (.ref 563) 564 920 "has_bit") ::
 (nat_lit 566,fE 747 565 qaG "onceroad.webs" "has_bit") ::
 (nat_lit 572,cE 923 327 2 567 (.ref 568) .none (.ref 569) (.ref 570) 571 928 "is_place") ::
 (nat_lit 573,fE 747 572 qah "onceroad.webs" "is_place") ::
 (nat_lit 579,cE 931 329 2 574 (.ref 575) .none (.ref 576) (.ref 577) 578 937 "are_two_places") ::
 (nat_lit 580,fE 747 579 jx "onceroad.webs" "are_two_places") ::
 (nat_lit 586,cE 940 334 1 581 (.ref 582) .none (.ref 583) (.ref 584) 585 946 "numbers_of") ::
 (nat_lit 587,fE 747 586 zh "onceroad.webs" "numbers_of") ::
 (nat_lit 593,cE 949 347 2 588 (.ref 589) .none (.ref 590) (.ref 591) 592 958 "near_of") ::
 (nat_lit 594,fE 747 593 qaI "onceroad.webs" "near_of") ::
 (nat_lit 600,cE 961 363 2 595 (.ref 596) .none (.ref 597) (.ref 598) 599 970 "piece_around") ::
 (nat_lit 601,fE 747 600 jQ "onceroad.webs" "piece_around") ::
 (nat_lit 607,cE 975 373 2 602 (.ref 603) .none (.ref 604) (.ref 605) 606 980 "_law_cell") ::
 (nat_lit 608,fE 973 607 qbb "law_onceroad_k44_whole_no_pairs_beat_bars" "_law_cell") ::
 (nat_lit 614,cE 983 377 1 609 (.ref 610) .none (.ref 611) (.ref 612) 613 987 "_law_purse") ::
 (nat_lit 615,fE 973 614 qaM "law_onceroad_k44_whole_no_pairs_beat_bars" "_law_purse") ::
 (nat_lit 621,cE 990 379 2 616 (.ref 617) .none (.ref 618) (.ref 619) 620 997 "_law_take") ::
 (nat_lit 622,fE 973 621 qbc "law_onceroad_k44_whole_no_pairs_beat_bars" "_law_take") ::
 (nat_lit 626,cE 1000 389 2 623 (.ref 624) .none .none .none 625 1003 "_law_names") ::
 (nat_lit 627,fE 973 626 zW "law_onceroad_k44_whole_no_pairs_beat_bars" "_law_names") ::
 (nat_lit 633,cE 1006 407 2 628 (.ref 629) .none (.ref 630) (.ref 631) 632 1017 "_law_ties") ::
 (nat_lit 634,fE 973 633 qbe "law_onceroad_k44_whole_no_pairs_beat_bars" "_law_ties") ::
 (nat_lit 640,cE 1020 419 2 635 (.ref 636) .none (.ref 637) (.ref 638) 639 1025 "_law_many") ::
 (nat_lit 641,fE 973 640 qbd "law_onceroad_k44_whole_no_pairs_beat_bars" "_law_many") ::
 (nat_lit 647,cE 1028 421 2 642 (.ref 643) .none (.ref 644) (.ref 645) 646 1036 "_law_made") ::
 (nat_lit 648,fE 973 647 qbf "law_onceroad_k44_whole_no_pairs_beat_bars" "_law_made") ::
 (nat_lit 654,cE 1039 426 2 649 (.ref 650) .none (.ref 651) (.ref 652) 653 1047 "_law_bits") ::
 (nat_lit 655,fE 973 654 qbg "law_onceroad_k44_whole_no_pairs_beat_bars" "_law_bits") ::
 (nat_lit 659,cE 1050 432 3 656 (.ref 657) .none .none .none 658 1053 "_law_pieces") ::
 (nat_lit 660,fE 973 659 j9 "law_onceroad_k44_whole_no_pairs_beat_bars" "_law_pieces") ::
 (nat_lit 664,cE 1056 445 3 661 (.ref 662) .none .none .none 663 1059 "_law_some") ::
 (nat_lit 665,fE 973 664 qaO "law_onceroad_k44_whole_no_pairs_beat_bars" "_law_some") ::
 (nat_lit 669,cE 1062 449 2 666 (.ref 667) .none .none .none 668 1065 "_law_room") ::
 (nat_lit 670,fE 973 669 qaN "law_onceroad_k44_whole_no_pairs_beat_bars" "_law_room") ::
 (nat_lit 676,cE 1068 451 3 671 (.ref 672) .none (.ref 673) (.ref 674) 675 1078 "_law_named") ::
 (nat_lit 677,fE 973 676 qaS "law_onceroad_k44_whole_no_pairs_beat_bars" "_law_named") ::
 (nat_lit 681,cE 1081 457 3 678 (.ref 679) .none .none .none 680 1084 "_law_lack") ::
 (nat_lit 682,fE 973 681 qao "law_onceroad_k44_whole_no_pairs_beat_bars" "_law_lack") ::
 (nat_lit 688,cE 1087 462 2 683 (.ref 684) .none (.ref 685) (.ref 686) 687 1094 "_law_shuffled") ::
 (nat_lit 689,fE 973 688 zt "law_onceroad_k44_whole_no_pairs_beat_bars" "_law_shuffled") ::
 (nat_lit 695,cE 1097 468 2 690 (.ref 691) .none (.ref 692) (.ref 693) 694 1107 "_law_fitting") ::
 (nat_lit 696,fE 973 695 zK "law_onceroad_k44_whole_no_pairs_beat_bars" "_law_fitting") ::
 (nat_lit 700,cE 1110 477 6 697 (.ref 698) .none .none .none 699 1113 "_law_one") ::
 (nat_lit 701,fE 973 700 qbG "law_onceroad_k44_whole_no_pairs_beat_bars" "_law_one") ::
 (nat_lit 705,cE 1116 488 1 702 (.ref 703) .none .none .none 704 1119 "law") ::
 (nat_lit 706,fE 973 705 qcP "law_onceroad_k44_whole_no_pairs_beat_bars" "law") ::
 []
noncomputable def ks:List Addr:=[2,3,199,200,206,207,211,212,216,217,230,231,237,238,242,243,263,264,270,271,277,278,282,283,289,290,296,297,301,302,304,305,315,316,322,323,327,328,334,335,339,340,346,347,353,354,360,361,365,366,372,373,379,380,384,385,391,392,396,397,403,404,410,411,417,418,424,425,429,430,443,444,450,451,457,458,471,472,478,479,485,486,492,493,499,500,506,507,513,514,525,526,530,531,554,555,565,566,572,573,579,580,586,587,593,594,600,601,607,608,614,615,621,622,626,627,633,634,640,641,647,648,654,655,659,660,664,665,669,670,676,677,681,682,688,689,695,696,700,701,705,706]
theorem ks_eq:∀ P,ks=(Kf P).map (·.1):=fun P=>by kernel_rfl
noncomputable abbrev Hk:Hook:=kHook Kf ks ks_eq
noncomputable abbrev Xt (s:Shared):Bool:=xlAt Q [] s&&recOk [] s
noncomputable abbrev sn (s:Shared):=openSeen Q [] (importedModules PySem.Challenge.pw_onceroad_k44_whole_no_pairs_beat_bars.main.body) Xt true s
noncomputable def runA (w:World) (os:OsState):=(Hd.lookS PySem.Challenge.pw_onceroad_k44_whole_no_pairs_beat_bars NN w os).map fun s=>((sn s).1,(sn s).2.1,(sn s).2.2.1,(sn s).2.2.2.1)
noncomputable def runB (w:World) (os:OsState):=(Hd.lookS PySem.Challenge.pw_onceroad_k44_whole_no_pairs_beat_bars NN w os).map fun s=>(sn s).2.2.2.2
noncomputable def runC (w:World) (os:OsState):=(Hd.lookS PySem.Challenge.pw_onceroad_k44_whole_no_pairs_beat_bars NN w os).map fun s=>ks.map s.heap.get?
noncomputable def gdA (_:World) (_:OsState):=some ((openGood Q []).1,(openGood Q []).2.1,(openGood Q []).2.2.1,(openGood Q []).2.2.2.1)
noncomputable def gdB (_:World) (_:OsState):=some (openGood Q []).2.2.2.2
noncomputable def gdC (w:World) (_:OsState):=some ((Kf w.params).map fun p=>some p.2)
noncomputable def tag {α:Type} (f g:World->OsState->α):Bool:=true
theorem tag1:(tag runA gdA&&(tag runB gdB&&tag runC runC))=true:=by k_qdec
theorem hA1 (w:World) (os:OsState):runA w os=gdA w os:=by
 rw [PySem.W.Fast.te16367453554892471981,PySem.W.Fast.te15681860921409587779]
 kernel_rfl
theorem hB1 (w:World) (os:OsState):runB w os=gdB w os:=by
 rw [PySem.W.Fast.te15472667993651025150,PySem.W.Fast.te12258064202547631148]
 kernel_rfl
theorem hC1 (w:World) (os:OsState):runC w os=gdC w os:=by
 rw [PySem.W.Fast.te16792270613638535655]
 kernel_rfl
theorem hl:LeftO PySem.Challenge.pw_onceroad_k44_whole_no_pairs_beat_bars Q [] Xt (Hook.obs Hk) (Hook.val Hk) NN:=Hd.left_of (by kernel_rfl) (by decide) (fun s=>by kernel_rfl) fun w os=>(Hd.lookT_map ..).trans (Hd.packs (hA1 w os) (hB1 w os) (hC1 w os))
end K44
namespace L2
open PySem PySem.Spec PyProof.Rows
variable {A:Around} {C a b dx it:Addr} {CX:CXT} {D:Ends} {E:Value->Shared->Prop} {H:Hp} {M:Model} {N ps:List Str} {P:Program} {X:Cx} {base h:Heap} {body:List Stmt} {c e tg:Expr} {ch fp:List Addr} {d':Drawn} {es:List Expr} {f:Value->Value->Sem Value} {g:TG} {g':Array GenState} {i j n t':Nat} {kindOf:Str->Option NameKind} {kw:List (Str×Value)} {lo:Int} {mA mg:Str->Option Value} {o:HO} {op op':CmpOp} {outer:List Env} {p pos:Pos} {pins:List (Addr×Obj)} {qual x:Str} {r r':R2} {s s':Shared} {sc scope:Scope} {t te:TE} {ta:TA} {tb:TS} {tc:TT} {u:Value} {us:List Value} {v y:V} {vs xs:List V} {w:World} {α:Type} {σ:St}
noncomputable abbrev Key:=Sum Int Str
noncomputable def qcS:Key->Value->Bool
 | .inl k,v=>Value.isInt k v
 | .inr x,v=>Value.isStrOf x v
noncomputable def keyH (w:World):Key->Int
 | .inl k=>hashInt k
 | .inr x=>hashStr w x
theorem qY:∀ {k:Key} {v:Value},qcS k v=true->(∃ i t,k=Sum.inl i/\v=Value.int i t)\/(∃ x t,k=Sum.inr x/\v=Value.str x t)
 | .inl i,v,h=>by
  obtain ⟨t,e⟩:=Value.isInt_shape (k:=i) (v:=v) h;exact .inl ⟨i,t,rfl,e⟩
 | .inr x,v,h=>by
  obtain ⟨t,e⟩:=Value.isStrOf_shape (x:=x) (v:=v) h;exact .inr ⟨x,t,rfl,e⟩
theorem keyIs_int (i:Int) (t:Tok):qcS (.inl i) (.int i t)=true:=by simp [qcS,Value.isInt]
theorem keyIs_str (x:Str) (t:Tok):qcS (.inr x) (.str x t)=true:=by simp [qcS,Value.isStrOf]
theorem key_ll (a b:Int):decide ((Sum.inl a:Key)=Sum.inl b)=(a==b):=by
 by_cases e:a=b
 ·subst e;simp
 ·have h:¬ (Sum.inl a:Key)=Sum.inl b:=fun q=>e (Sum.inl.inj q);rw [yl h];exact (YJ.mpr e).symm
theorem key_rr (a b:Str):decide ((Sum.inr a:Key)=Sum.inr b)=decide (a=b):=by
 by_cases e:a=b
 ·subst e;simp
 ·have h:¬ (Sum.inr a:Key)=Sum.inr b:=fun q=>e (xn q);rw [yl h,yl e]
theorem key_lr (a:Int) (b:Str):decide ((Sum.inl a:Key)=Sum.inr b)=false:=yl (fun q=>nomatch q)
theorem key_rl (a:Str) (b:Int):decide ((Sum.inr a:Key)=Sum.inl b)=false:=yl (fun q=>nomatch q)
noncomputable def jr (prog:Program) (w:World):PySem.KeyKind prog w Key where
 is:=qcS
 hash:=keyH w
 inj:=fun v a b ha hb=>by
  rcases qY ha with ⟨i,t,rfl,rfl⟩ | ⟨x,t,rfl,rfl⟩
  ·rcases qY hb with ⟨j,u,rfl,e⟩ | ⟨y,u,rfl,e⟩
   ·injection e with e1 _;rw [e1]
   ·exact nomatch e
  ·rcases qY hb with ⟨j,u,rfl,e⟩ | ⟨y,u,rfl,e⟩
   ·exact nomatch e
   ·injection e with e1 _;rw [e1]
 byValue:=fun k v h=>by
  rcases qY h with ⟨i,t,rfl,rfl⟩ | ⟨x,t,rfl,rfl⟩<;>rfl
 pyHash:=fun hv h=>by
  rcases qY hv with ⟨i,t,rfl,rfl⟩ | ⟨x,t,rfl,rfl⟩
  ·exact wpAny_pyHash_int h
  ·exact wpAny_pyHash_str h
 eqBool:=fun hu hv h=>by
  rcases qY hu with ⟨i,t,rfl,rfl⟩ | ⟨x,t,rfl,rfl⟩
  ·rcases qY hv with ⟨j,u,rfl,rfl⟩ | ⟨y,u,rfl,rfl⟩
   ·rw [key_ll] at h;exact wpAny_eqBool_int h
   ·rw [key_lr] at h;exact SeqAt.EqAt.int_str i t y u _ _ _ _ h
  ·rcases qY hv with ⟨j,u,rfl,rfl⟩ | ⟨y,u,rfl,rfl⟩
   ·rw [key_rl] at h;exact SeqAt.EqAt.str_int x t j u _ _ _ _ h
   ·rw [key_rr] at h;exact wpAny_eqBool_str h
 «strs»:=fun k x t v h=>by
  rcases qY h with ⟨i,u,rfl,e⟩ | ⟨y,u,rfl,e⟩
  ·exact nomatch e
  ·injection e with e1 _
   subst e1;cases v<;>rfl
theorem mixKind_int (prog:Program) (w:World) (i:Int) (t:Tok):(jr prog w).is (.inl i) (.int i t)=true:=keyIs_int i t
theorem mixKind_str (prog:Program) (w:World) (x:Str) (t:Tok):(jr prog w).is (.inr x) (.str x t)=true:=keyIs_str x t
inductive V where
 | non | bl (b:Bool) | int (i:Int) | str (x:Str) | byt (b:Array UInt8) | flt (b:UInt64) | ref (a:Addr) | ty (n:String)
 deriving DecidableEq
noncomputable def RelV:V->Value->Prop
 | .non,u=>u=Value.none
 | .bl b,u=>u=Value.bool b
 | .int i,u=>∃ t,u=Value.int i t
 | .str x,u=>∃ t,u=Value.str x t
 | .byt b,u=>∃ t,u=Value.bytes b t
 | .flt b,u=>∃ t,u=Value.float b t
 | .ref a,u=>u=Value.ref a
 | .ty n,u=>u=Value.type n
noncomputable abbrev Vals:List V->List Value->Prop:=Paired RelV
theorem Vals.length (r:Vals xs us):xs.length=us.length:=Paired.length r
theorem Vals.get:∀ {xs:List V} {us:List Value} {i:Nat} {x:V},Vals xs us->xs[i]?=some x->∃ u,us[i]?=some u/\RelV x u
 | _,_,_,_,.nil,e=>by simp at e
 | _,_,0,_,.cons r _,e=>by simp at e;subst e;exact ⟨_,rfl,r⟩
 | _,_,i + 1,x,.cons _ t,e=>by
  obtain ⟨u,h1,h2⟩:=Vals.get (i:=i) (x:=x) t (by simpa using e);exact ⟨u,by simpa using h1,h2⟩
theorem Vals.set {x:V} (r:RelV x u):∀ {xs:List V} {us:List Value} (i:Nat),Vals xs us->Vals (xs.set i x) (us.set i u)
 | _,_,_,.nil=>.nil
 | _,_,0,.cons _ t=>.cons r t
 | _,_,i + 1,.cons q t=>.cons q (Vals.set r i t)
theorem Vals.append:∀ {xs ys:List V} {us ws:List Value},Vals xs us->Vals ys ws->Vals (xs++ys) (us++ws)
 | _,_,_,_,.nil,s=>s
 | _,_,_,_,.cons r t,s=>.cons r (Vals.append t s)
theorem Vals.take:∀ {xs:List V} {us:List Value} (n:Nat),Vals xs us->Vals (xs.take n) (us.take n)
 | _,_,0,_=>.nil
 | _,_,_ + 1,.nil=>.nil
 | _,_,n + 1,.cons r t=>.cons r (Vals.take n t)
theorem Vals.drop:∀ {xs:List V} {us:List Value} (n:Nat),Vals xs us->Vals (xs.drop n) (us.drop n)
 | _,_,0,r=>r
 | _,_,_ + 1,.nil=>.nil
 | _,_,n + 1,.cons _ t=>Vals.drop n t
noncomputable def RelO:Option V->Option Value->Prop
 | some v,some u=>RelV v u
 | none,none=>True
 | _,_=>False
noncomputable def KV {κ:Type}:List (κ×V)->List (κ×Value)->Prop:=Paired fun (p:κ×V) (q:κ×Value)=>p.1=q.1/\RelV p.2 q.2
noncomputable def kV:Key->V
 | .inl i=>.int i
 | .inr x=>.str x
inductive HO where
 /-- a list -/
 | lst (xs:List V)
 /-- a tuple (never changes) -/
 | tup (xs:List V)
 /-- a dict whose keys are ints and texts;one whose keys are tuples of ints and texts (the empty one is both) -/
 | dK (kvs:List (Key×V)) | dT (kvs:List (List Key×V))
 /-- a set of ints: its members,its size -/
 | set (S:Int->Bool) (n:Nat)
 /-- an instance of the class at C,its dict at dx,its attributes -/
 | ins (C dx:Addr) (fs:List (Str×V))
 /-- the dict of the instance at x -/
 | own (x:Addr)
 /-- the dict of an exception -/
 | xd (fs:List (Str×V))
 /-- a bound method,f of x -/
 | met (f x:Addr)
 /-- a range object lo,lo + 1,.. below hi -/
 | rng (lo hi:Int)
 /-- a thing that is known to the object (the script;a dict while a loop walks it): read,never written while it is so -/
 | frz (o:Obj) (u:HO)
 /-- a code object's table -/
 | tbl (ps:Array Value)
 /-- any other thing,by what is true of its one object (a def of one's own: SetO a S n:=HO.ext fun h=>..) -/
 | ext (φ:Heap->Prop)
noncomputable abbrev Hp:=Addr->Option HO
noncomputable def upd (H:Hp) (a:Addr) (o:HO):Hp:=fun b=>if b=a then some o else H b
theorem qb:upd H a o a=some o:=by unfold upd;rw [yF rfl]
theorem qf (h:b≠a):upd H a o b=H b:=by unfold upd;rw [yC h]
theorem qav {u:HO} (h:H a=some o) (h':H b=some u) (d:o≠u):a≠b:=by
 intro e;subst e;rw [h] at h';exact d (ym h')
theorem qD (h:H a=some o) (h':H b=none):a≠b:=by
 intro e;subst e;rw [h] at h';cases h'
section
variable (P:Program) (w:World)
noncomputable def ObjOk (H:Hp) (h:Heap) (a:Addr):HO->Prop
 | .lst xs=>xs.length<=sizeLine/\∃ (its:List Value) (n:Nat),Vals xs its/\h.get? a=some { cls:=.type "list",data:=.seq its.toArray n }
 | .tup xs=>xs.length<=sizeLine/\∃ its:List Value,Vals xs its/\IsTup h a its.toArray
 | .dK kvs=>kvs.length<=sizeLine/\(a==sysModules)=false/\∃ vs,KV kvs vs/\h.DictOf (jr P w) a vs
 | .dT kvs=>kvs.length<=sizeLine/\(a==sysModules)=false/\∃ xs:List (List Key×Addr×Value),
   Paired (fun (p:List Key×V) (q:List Key×Addr×Value)=>p.1=q.1/\H q.2.1=some (.tup (p.1.map kV))/\RelV p.2 q.2.2) kvs xs /\
   ∃ o es ep,h.get? a=some o/\o.ExactDict/\o.data=.dict es ep/\es.toList=xs.map (entryOfKey (tupleKind (jr P w)))/\(xs.map (·.1)).Nodup
 | .set S n=>h.SetOf (intKind P w) a S n
 | .ins C dx fs=>H dx=some (.own a)/\fs.length<=1000/\dx≠a/\h.get? a=some (PySem.W.instObj C dx) /\
   ∃ mA,h.Ns1 dx mA/\(∀ f,RelO (fs.lookup f) (mA f))/\PySem.Within mA (fs.map (·.1))
 | .own _=>∃ o,h.get? a=some o
 | .xd fs=>∃ mA,h.Ns1 a mA/\∀ f,RelO (fs.lookup f) (mA f)
 | .rng lo hi=>∃ t u v,h.get? a=some { cls:=.type "range",data:=.fields #[.int lo t,.int hi u,.int 1 v] }
 | .frz o u=>h.get? a=some o/\ObjOk H h a u
 | .tbl ps=>h.get? a=some { cls:=.none,data:=.fields ps }
 | .met f x=>h.get? a=some (PySem.W.methodObj (.ref f) (.ref x))
 | .ext φ=>φ h/\(∃ o,h.get? a=some o)/\∀ h1 h2:Heap,φ h1->(∀ o,h1.get? a=some o->h2.get? a=some o)->φ h2
noncomputable def HOk (H:Hp) (h:Heap):Prop:=∀ a o,H a=some o->ObjOk P w H h a o
end
section
variable {P:Program} {w:World} {H H':Hp} {h h':Heap} {a:Addr} {o:HO}
theorem ObjOk.lt (x:ObjOk P w H h a o):a < h.objs.size:=by
 cases o with
 | lst xs=>obtain ⟨_,_,_,_,e⟩:=x;exact yK e
 | tup xs=>obtain ⟨_,_,_,p⟩:=x;exact p.lt
 | dK kvs=>obtain ⟨_,_,_,_,o,_,_,e,_⟩:=x;exact yK e
 | dT kvs=>obtain ⟨_,_,_,_,o,_,_,e,_⟩:=x;exact yK e
 | set S n=>obtain ⟨o,_,_,_,e,_⟩:=x;exact yK e
 | ins C dx fs=>obtain ⟨_,_,_,e,_⟩:=x;exact yK e
 | own y=>obtain ⟨_,e⟩:=x;exact yK e
 | xd fs=>obtain ⟨_,⟨_,_,_,e,_⟩,_⟩:=x;exact yK e
 | rng lo hi=>obtain ⟨_,_,_,e⟩:=x;exact yK e
 | frz ob u=>obtain ⟨e,_⟩:=x;exact yK e
 | tbl ps=>exact yK (show h.get? a=some _ from x)
 | met f y=>exact yK (show h.get? a=some _ from x)
 | ext φ=>obtain ⟨_,⟨_,e⟩,_⟩:=x;exact yK e
theorem Paired.mapP {β:Type} {F G:α->β->Prop}:∀ {l₁:List α} {l₂:List β},Paired F l₁ l₂->(∀ a b,F a b->G a b)->Paired G l₁ l₂
 | _,_,.nil,_=>.nil
 | _,_,.cons r t,f=>.cons (f _ _ r) (Paired.mapP t f)
theorem ObjOk.stay (x:ObjOk P w H h a o) (k:∀ b u,(b=a\/H b=some (.own a))->h.get? b=some u->h'.get? b=some u)
  (ho:∀ b,H b=some (.own a)->H' b=some (.own a)) (ht:∀ b xs,H b=some (.tup xs)->H' b=some (.tup xs)):ObjOk P w H' h' a o:=by
 induction o with
 | lst xs=>obtain ⟨z,its,n,r,e⟩:=x;exact ⟨z,its,n,r,k _ _ (.inl rfl) e⟩
 | tup xs=>obtain ⟨z,its,r,ob,e,c⟩:=x;exact ⟨z,its,r,ob,k _ _ (.inl rfl) e,c⟩
 | dK kvs=>obtain ⟨z,y,vs,r,ob,es,ep,e,c⟩:=x;exact ⟨z,y,vs,r,ob,es,ep,k _ _ (.inl rfl) e,c⟩
 | dT kvs =>
  obtain ⟨z,y,xs,r,ob,es,ep,e,c⟩:=x;exact ⟨z,y,xs,Paired.mapP r fun p q z=>⟨z.1,ht _ _ z.2.1,z.2.2⟩,ob,es,ep,k _ _ (.inl rfl) e,c⟩
 | set S n=>obtain ⟨ob,es,ep,t,e,c⟩:=x;exact ⟨ob,es,ep,t,k _ _ (.inl rfl) e,c⟩
 | ins C dx fs =>
  obtain ⟨d,z,ne,e,mA,⟨od,es,ep,e2,c⟩,r⟩:=x;exact ⟨ho _ d,z,ne,k _ _ (.inl rfl) e,mA,⟨od,es,ep,k _ _ (.inr d) e2,c⟩,r⟩
 | own y=>obtain ⟨ob,e⟩:=x;exact ⟨ob,k _ _ (.inl rfl) e⟩
 | xd fs=>obtain ⟨mA,⟨od,es,ep,e,c⟩,r⟩:=x;exact ⟨mA,⟨od,es,ep,k _ _ (.inl rfl) e,c⟩,r⟩
 | rng lo hi=>obtain ⟨t,u,v,e⟩:=x;exact ⟨t,u,v,k _ _ (.inl rfl) e⟩
 | frz ob u ih=>obtain ⟨e,q⟩:=x;exact ⟨k _ _ (.inl rfl) e,ih q⟩
 | tbl ps =>
  have e:h.get? a=some { cls:=.none,data:=.fields ps }:=x;show h'.get? a=some { cls:=.none,data:=.fields ps };exact k a _ (.inl rfl) e
 | met f y =>
  have e:h.get? a=some (PySem.W.methodObj (.ref f) (.ref y)):=x;show h'.get? a=some (PySem.W.methodObj (.ref f) (.ref y));exact k a _ (.inl rfl) e
 | ext φ=>obtain ⟨p,⟨o,e⟩,st⟩:=x;exact ⟨st _ _ p fun o q=>k _ _ (.inl rfl) q,⟨o,k _ _ (.inl rfl) e⟩,st⟩
theorem HOk.lt (x:HOk P w H h) (e:H a=some o):a < h.objs.size:=(x a o e).lt
theorem HOk.fresh (x:HOk P w H h) (e:h.objs.size<=a):H a=none:=by
 cases q:H a with
 | none=>rfl
 | some u=>exact absurd (yj (x.lt q) e) (Yx _)
theorem HOk.kept (x:HOk P w H h) (k:∀ b u,h.get? b=some u->h'.get? b=some u):HOk P w H h':=fun a o e =>
 (x a o e).stay (fun b u _ q=>k b u q) (fun _ q=>q) fun _ _ q=>q
theorem HOk.laid (x:HOk P w H h) (k:∀ b u,h.get? b=some u->h'.get? b=some u) (hp:h.objs.size<=a) (new:ObjOk P w (upd H a o) h' a o):HOk P w (upd H a o) h':=fun b u e=>by
 have hn:=x.fresh hp;by_cases hb:b=a
 ·subst hb;rw [qb] at e;cases e;exact new
 ·rw [qf hb] at e;exact (x b u e).stay (fun c v _ q=>k c v q) (fun c q=>by rw [qf (qD q hn)];exact q) fun c xs q=>by rw [qf (qD q hn)];exact q
end
noncomputable def Rd (H:Hp) (a:Addr) (u:HO):Prop:=H a=some u\/∃ o,H a=some (.frz o u)
theorem Rd.ok {u:HO} (r:Rd H a u) (x:HOk P w H h):ObjOk P w H h a u:=by
 rcases r with r | ⟨o,r⟩
 ·exact x a u r
 ·obtain ⟨_,q⟩:=x a _ r;exact q
noncomputable def Mut:Option HO->Prop
 | some (.lst _)=>True
 | some (.dK _)=>True
 | some (.dT _)=>True
 | some (.set _ _)=>True
 | some (.ins _ _ _)=>True
 | some (.ext _)=>True
 | _=>False
section
variable {P:Program} {w:World} {H:Hp} {h h':Heap} {x e:Addr} {o':HO}
theorem HOk.write (ok:HOk P w H h) (mu:Mut (H x)) (he:e=x\/H e=some (.own x)) (k:∀ b u,b≠e->h.get? b=some u->h'.get? b=some u) (heo:∃ u,h'.get? e=some u)
  (new:ObjOk P w (upd H x o') h' x o'):HOk P w (upd H x o') h':=fun b u q=>by
 have nown:∀ c y,H c=some (.own y)->c≠x:=fun c y r z=>by subst z;rw [r] at mu;exact mu
 have ntup:∀ c xs,H c=some (.tup xs)->c≠x:=fun c xs r z=>by subst z;rw [r] at mu;exact mu
 by_cases hb:b=x
 ·subst hb;rw [qb] at q;cases q;exact new
 ·rw [qf hb] at q;by_cases hbe:b=e
  ·have q':H b=some (.own x):=by
    rcases he with z | z
    ·exact absurd (hbe.trans z) hb
    ·rw [hbe];exact z
   rw [q] at q';cases q';obtain ⟨v,hv⟩:=heo;exact ⟨v,by rw [hbe];exact hv⟩
  ·refine (ok b u q).stay (fun c v hc r=>k c v ?_ r) (fun c r=>by rw [qf (nown c b r)];exact r) fun c xs r=>by rw [qf (ntup c xs r)];exact r
   rcases hc with rfl | hc
   ·exact hbe
   ·rintro rfl;rcases he with z | z
    ·exact nown c b hc z
    ·rw [hc] at z;cases z;exact hb rfl
end
structure Un (fs ex:List Addr) (H H':Hp) (h h':Heap):Prop where
 keep:∀ b o,h.get? b=some o->H b=none->b∉fs->b∉ex->h'.get? b=some o
 slot:∀ b o,h.get? b=some o->H b=none->b∈fs->b∉ex->∃ sl,h'.get? b=some { o with slots:=sl }
 free:∀ b o,h.get? b=some o->H b=none->b∉ex->H' b=none
 there:∀ b o,h.get? b=some o->b∉ex->∃ o',h'.get? b=some o'
 tups:∀ b xs,H b=some (.tup xs)->H' b=some (.tup xs)
 frzs:∀ b o u,H b=some (.frz o u)->H' b=some (.frz o u)
 tbls:∀ b ps,H b=some (.tbl ps)->∃ more,H' b=some (.tbl (ps++more))
section
variable {fs fs' ex ex':List Addr} {H H1 H2:Hp} {h h1 h2 h':Heap} {a x e:Addr} {o:HO}
theorem Un.any (u:Un fs ex H H1 h h1) {ob:Obj} (q:h.get? b=some ob) (n:H b=none) (hx:b∉ex):∃ sl,h1.get? b=some { ob with slots:=sl }:=by
 by_cases hb:b∈fs
 ·exact u.slot b ob q n hb hx
 ·exact ⟨ob.slots,u.keep b ob q n hb hx⟩
theorem Un.kept (k:∀ b u,h.get? b=some u->h'.get? b=some u):Un fs ex H H h h':=
 ⟨fun b ob q _ _ _=>k b ob q,fun b ob q _ _ _=>⟨ob.slots,k b ob q⟩,fun _ _ _ n _=>n,fun b ob q _=>⟨ob,k b ob q⟩,fun _ _ q=>q,fun _ _ _ q=>q,fun _ ps q=>⟨#[],by rw [q];simp⟩⟩
theorem Un.refl:Un fs ex H H h h:=Un.kept fun _ _ q=>q
theorem Un.laid (k:∀ b u,h.get? b=some u->h'.get? b=some u) (hp:h.objs.size<=a) (hn:H a=none):Un fs ex H (upd H a o) h h' where
 keep:=fun b u q _ _ _=>k b u q
 slot:=fun b u q _ _ _=>⟨u.slots,k b u q⟩
 free:=fun b u q n _=>by rw [qf (yN (yj (yK q) hp))];exact n
 there:=fun b u q _=>⟨u,k b u q⟩
 tups:=fun b xs q=>by rw [qf (qD q hn)];exact q
 frzs:=fun b u xs q=>by rw [qf (qD q hn)];exact q
 tbls:=fun b ps q=>⟨#[],by rw [qf (qD q hn),q];simp⟩
theorem Un.write (mu:Mut (H x)) (he:e=x\/H e=some (.own x)) (k:∀ b u,b≠e->h.get? b=some u->h'.get? b=some u) (heo:∃ u,h'.get? e=some u):Un fs ex H (upd H x o) h h':=by
 have hx:∀ b,H b=none->b≠x:=fun b n z=>by subst z;rw [n] at mu;exact mu
 have hb:∀ b,H b=none->b≠e:=fun b n z=>by
  subst z;rcases he with r | r
  ·exact hx b n r
  ·rw [n] at r;cases r
 have hm:∀ b u,H b=some u->¬ Mut (some u)->b≠x:=fun b u q nm z=>by subst z;rw [q] at mu;exact nm mu
 refine ⟨fun b u q n _ _=>k b u (hb b n) q,fun b u q n _ _=>⟨u.slots,k b u (hb b n) q⟩,fun b u q n _=>by rw [qf (hx b n)];exact n,fun b u q _=>?_,
  fun b xs q=>by rw [qf (hm b _ q fun z=>z)];exact q,fun b u xs q=>by rw [qf (hm b _ q fun z=>z)];exact q,fun b ps q=>⟨#[],by rw [qf (hm b _ q fun z=>z),q];simp⟩⟩
 by_cases hbe:b=e
 ·subst hbe;exact heo
 ·exact ⟨u,k b u hbe q⟩
end
noncomputable def trk (h:Heap) (H:Hp):List Addr:=(List.range h.objs.size).filter fun a=>(H a).isSome
noncomputable def qey (h:Heap) (H:Hp):Heap:=PySem.W.hideAll h (trk h H)
theorem hidT_size (h:Heap) (H:Hp):(qey h H).objs.size=h.objs.size:=PySem.W.hideAll_size _ _
theorem hidT_get {o:Obj} (e:h.get? b=some o) (n:H b=none):(qey h H).get? b=some o:=
 PySem.W.hideAll_get _ e fun hm=>by
  have q:(H b).isSome=true:=(yp.mp hm).2;rw [n] at q;simp at q
theorem of_hidT {o:Obj} (e:(qey h H).get? b=some o):h.get? b=some o/\H b=none:=by
 have e':h.get? b=some o:=PySem.W.of_hideAll (trk h H) e;refine ⟨e',?_⟩
 cases q:H b with
 | none=>rfl
 | some x =>
  have hm:b∈trk h H:=yp.mpr ⟨Yw.mpr (yK e'),by simp [q]⟩;have z:(qey h H).get? b=none:=PySem.W.hideAll_none (trk h H) hm;rw [z] at e;cases e
noncomputable def allNews (g h:Heap) (L:Addr):List (Addr×Obj):=(List.range h.objs.size).filterMap fun a=>if a=L\/(g.get? a).isSome=true then none else (h.get? a).map fun o=>(a,o)
noncomputable def qcT (g h:Heap) (L d:Addr):List (Addr×Obj):=(allNews g h L).filter fun p=>decide (p.1≠d)
structure Mod (K:yg) (mg:Str->Option Value) (base:Heap):Prop where
 kin:K.In base
 glob:base.Ns mainGlobals mg
 blt:∃ mb,base.Ns builtinsNs mb/\∀ x:Str,x≠"__name__"->mb x=bootBuiltins x
 nolimit:base.NoLimit
structure Cx where
 prog:Program
 w:World
 K:yg
 mg:Str->Option Value
 base:Heap
 A:Around
 N:List Str
 s₀:Shared
 H₀:Hp
 env:Env
 outer:List Env
 stack:List Env
 ex:List Addr
 fn:Str->Bool
 calm:Bool
 pn:List (Addr×Obj)
 xe:Value->Shared->Prop
noncomputable def frs (l:List Env):List Addr:=l.filterMap (·.frame)
noncomputable abbrev Cx.fs (X:Cx):List Addr:=frs X.outer
noncomputable def Vis (sc:Scope) (x:Str):Prop:=sc.names.lookup x=some .local\/sc.names.lookup x=some .cell\/sc.names.lookup x=some .free
noncomputable def Loc (sc:Scope) (x:Str):Prop:=sc.names.lookup x=some .local\/sc.names.lookup x=some .cell
noncomputable def Look (env:Env) (h:Heap) (m:Str->Option Value) (x:Str) (u:Value):Prop:=
 (env.kindOf x=some .local/\m x=some u)\/((env.kindOf x=some .cell\/env.kindOf x=some .free)/\∃ c,env.cells.lookup x=some c/\h.IsCell c (some u))
structure Cx.Ok (X:Cx):Prop where
 mod:Mod X.K X.mg X.base
 kind:X.env.scope.kind=.function
 glob:X.env.globals=mainGlobals
 blt:X.env.builtins=builtinsNs
 above:X.s₀.heap.objs.size<=X.env.locals
 inj:∀ x y c,X.env.cells.lookup x=some c->X.env.cells.lookup y=some c->x=y
 has:∀ x,(X.env.kindOf x=some .cell\/X.env.kindOf x=some .free)->∃ c,X.env.cells.lookup x=some c
 cab:∀ x c,X.fn x=true->X.env.cells.lookup x=some c->X.s₀.heap.objs.size<=c
 hd:X.calm=true->X.A.handled=none
 frames:X.A.frames=some X.stack
 stk:X.stack=X.outer\/(X.stack=X.env::X.outer/\X.env.frame=some X.env.locals)
 exf:∀ b∈X.ex,b≠X.env.locals/\∀ x c,X.env.cells.lookup x=some c->c≠b
 bs:∀ b o,X.base.get? b=some o->X.s₀.heap.get? b=some o/\X.H₀ b=none
 bsz:X.base.objs.size<=X.s₀.heap.objs.size
 noex:∀ b o,X.base.get? b=some o->b∉X.ex
 exfs:∀ b∈X.ex,b∉X.fs
 funs:X.s₀.heap.FunFrames X.base X.outer
 frf:∀ b∈X.fs,X.H₀ b=none
structure Inv (X:Cx) (pins:List (Addr×Obj)) (σ:List (Option V)) (H:Hp) (s:Shared):Prop where
 ok:X.Ok
 os:s.os=X.s₀.os
 bare:AllBare s.gens
 base:Un X.fs X.ex X.H₀ H X.s₀.heap s.heap
 loc:∃ m,s.heap.Ns X.env.locals m/\∀ (i:Nat) (x:Str) (v:V),X.N[i]?=some x->σ[i]?=some (some v)->Vis X.env.scope x->∃ u,RelV v u/\Look X.env s.heap m x u
 cell:∀ x c,X.env.cells.lookup x=some c->∃ v,s.heap.IsCell c v
 free:H X.env.locals=none
 freeC:∀ x c,X.env.cells.lookup x=some c->H c=none
 pin:∀ p∈X.pn++pins,s.heap.get? p.1=some p.2/\H p.1=none/\p.1≠X.env.locals/\p.1∉X.fs/\∀ v,p.2.data≠.cell v
 hok:HOk X.prog X.w H s.heap
 len:σ.length=X.N.length
section
variable {X:Cx} {pins:List (Addr×Obj)} {σ:List (Option V)} {H H':Hp} {s:Shared} {h':Heap}
theorem Cx.Ok.nofr (ok:X.Ok) {o:Obj} (e:X.base.get? b=some o):b∉X.fs:=fun hb=>by
 have:=(ok.funs.mem hb).1;rw [e] at this;cases this
theorem Inv.bs (I:Inv X pins σ H s):∀ b o,X.base.get? b=some o->s.heap.get? b=some o/\H b=none:=fun b o e =>
 ⟨I.base.keep b o (I.ok.bs b o e).1 (I.ok.bs b o e).2 (I.ok.nofr e) (I.ok.noex b o e),I.base.free b o (I.ok.bs b o e).1 (I.ok.bs b o e).2 (I.ok.noex b o e)⟩
theorem Inv.bk (I:Inv X pins σ H s):∀ b o,X.base.get? b=some o->s.heap.get? b=some o:=fun b o e=>(I.bs b o e).1
theorem Inv.mod (I:Inv X pins σ H s):Mod X.K X.mg X.base:=I.ok.mod
theorem Inv.kIn (I:Inv X pins σ H s):X.K.In s.heap:=I.ok.mod.kin.keeps I.bk
theorem Inv.lt (I:Inv X pins σ H s):X.env.locals < s.heap.objs.size:=let ⟨_,hn,_⟩:=I.loc;hn.lt
theorem Inv.sz (I:Inv X pins σ H s):X.s₀.heap.objs.size<=s.heap.objs.size:=yi I.ok.above (yX I.lt)
theorem Inv.nofs (I:Inv X pins σ H s) (h:s.heap.objs.size<=a):a∉X.fs:=fun hb=>by
 obtain ⟨_,o,ho,_⟩:=I.ok.funs.mem hb;exact absurd (yj (yK ho) (yi I.sz h)) (Yx _)
theorem Inv.cne (I:Inv X pins σ H s):∀ x c,X.env.cells.lookup x=some c->c≠X.env.locals:=fun x c e z=>by
 obtain ⟨v,o,ho,hd⟩:=I.cell x c e;obtain ⟨m,⟨o',es,ep,ho',hd',_⟩,_⟩:=I.loc;rw [z,ho'] at ho;cases ho;rw [hd'] at hd;cases hd
theorem Inv.funs (I:Inv X pins σ H s):s.heap.FunFrames X.base X.outer:=by
 have all:∀ (l:List Env),(∀ b∈frs l,b∈X.fs)->X.s₀.heap.FunFrames X.base l->s.heap.FunFrames X.base l:=by
  intro l
  induction l with
  | nil=>intro _ _;trivial
  | cons env r ih =>
   intro hs hl;obtain ⟨hk,⟨L,o,hf,hn,ho,hd⟩,hr⟩:=hl;have hL:L∈X.fs:=hs L (by unfold frs;rw [Xn,hf];exact yZ);obtain ⟨sl,e⟩:=I.base.slot L o ho (I.ok.frf L hL) hL fun z=>I.ok.exfs L z hL;exact ⟨hk,⟨L,_,hf,hn,e,hd⟩,ih (fun b hb=>hs b (by unfold frs;rw [Xn,hf];exact yJ _ hb)) hr⟩
 exact all X.outer (fun _ hb=>hb) I.ok.funs
theorem Inv.stack (I:Inv X pins σ H s):s.heap.FunFrames X.base X.stack:=by
 rcases I.ok.stk with e | ⟨e,hf⟩
 ·rw [e];exact I.funs
 ·rw [e];obtain ⟨m,hn,_⟩:=I.loc;refine .cons (by rw [I.ok.kind];decide) hf hn ?_ I.funs;exact Heap.get?_none_of_le (yi I.ok.bsz I.ok.above)
theorem Inv.stkSub (I:Inv X pins σ H s):∀ b∈frs X.stack,b∈X.env.locals::X.fs:=fun b hb=>by
 rcases I.ok.stk with e | ⟨e,hf⟩
 ·rw [e] at hb;exact yJ _ hb
 ·rw [e] at hb;unfold frs at hb;rw [Xn,hf] at hb;exact hb
theorem Inv.stkFree (I:Inv X pins σ H s):∀ b∈frs X.stack,H b=none:=fun b hb=>by
 rcases yB.mp (I.stkSub b hb) with e | hb
 ·rw [e];exact I.free
 ·obtain ⟨_,o,ho,_⟩:=I.ok.funs.mem hb;exact I.base.free b o ho (I.ok.frf b hb) fun z=>I.ok.exfs b z hb
theorem Inv.step (I:Inv X pins σ H s)
  (hch:∀ b∈ch,(b∈X.ex\/X.s₀.heap.objs.size<=b)/\b≠X.env.locals/\(∀ x c,X.env.cells.lookup x=some c->c≠b)/\∀ p∈X.pn++pins,p.1≠b)
  (keep:∀ b o,b≠X.env.locals->b∉X.fs->b∉ch->s.heap.get? b=some o->H b=none->h'.get? b=some o)
  (slot:∀ b o,b≠X.env.locals->b∈X.fs->b∉ch->s.heap.get? b=some o->H b=none->∃ sl,h'.get? b=some { o with slots:=sl }) (free:∀ b o,b∉ch->s.heap.get? b=some o->H b=none->H' b=none)
  (there:∀ b o,b∉ch->s.heap.get? b=some o->∃ o',h'.get? b=some o')
  (tups:∀ b xs,H b=some (.tup xs)->H' b=some (.tup xs)) (frzs:∀ b o u,H b=some (.frz o u)->H' b=some (.frz o u)) (tbls:∀ b ps,H b=some (.tbl ps)->∃ more,H' b=some (.tbl (ps++more)))
  (ns:∀ m,s.heap.Ns X.env.locals m->h'.Ns X.env.locals m) (hok:HOk X.prog X.w H' h') (hg:AllBare g') :
  Inv X pins σ H' { s with heap:=h',gens:=g',drawn:=d',toks:=t' }:=by
 have neL:∀ b o,X.s₀.heap.get? b=some o->b≠X.env.locals:=fun b o e=>yN (yj (yK e) I.ok.above)
 have neC:∀ b o,X.s₀.heap.get? b=some o->b∉X.ex->b∉ch:=fun b o e hx hb=>by
  rcases (hch b hb).1 with z | z
  ·exact hx z
  ·exact absurd (yj (yK e) z) (Yx _)
 have cellK:∀ x c,X.env.cells.lookup x=some c->∀ v,s.heap.IsCell c v->h'.IsCell c v:=fun x c e v ⟨o,ho,hd⟩=>by
  have nch:c∉ch:=fun z=>(hch c z).2.2.1 x c e rfl;by_cases hc:c∈X.fs
  ·obtain ⟨sl,q⟩:=slot c o (I.cne x c e) hc nch ho (I.freeC x c e);exact ⟨_,q,hd⟩
  ·exact ⟨o,keep c o (I.cne x c e) hc nch ho (I.freeC x c e),hd⟩
 refine ⟨I.ok,I.os,hg,⟨fun b o e n hb hx=>?_,fun b o e n hb hx=>?_,fun b o e n hx=>?_,fun b o e hx=>?_,fun b xs e=>tups b xs (I.base.tups b xs e),fun b o xs e=>frzs b o xs (I.base.frzs b o xs e),fun b ps e=>?_⟩,?_,fun x c e=>?_,?_,fun x c e=>?_,fun p hp=>?_,hok,I.len⟩
 ·exact keep b o (neL b o e) hb (neC b o e hx) (I.base.keep b o e n hb hx) (I.base.free b o e n hx)
 ·obtain ⟨sl,e1⟩:=I.base.slot b o e n hb hx;obtain ⟨sl',e2⟩:=slot b _ (neL b o e) hb (neC b o e hx) e1 (I.base.free b o e n hx);exact ⟨sl',e2⟩
 ·obtain ⟨o',e1⟩:=I.base.there b o e hx;exact free b o' (neC b o e hx) e1 (I.base.free b o e n hx)
 ·obtain ⟨o',e1⟩:=I.base.there b o e hx;exact there b o' (neC b o e hx) e1
 ·obtain ⟨m1,e1⟩:=I.base.tbls b ps e;obtain ⟨m2,e2⟩:=tbls b _ e1;exact ⟨m1++m2,by rw [e2,Array.append_assoc]⟩
 ·obtain ⟨m,hn,hl⟩:=I.loc;refine ⟨m,ns m hn,fun i x v e1 e2 e3=>?_⟩;obtain ⟨u,r,l⟩:=hl i x v e1 e2 e3;refine ⟨u,r,?_⟩;rcases l with l | ⟨k,c,e,z⟩
  ·exact .inl l
  ·exact .inr ⟨k,c,e,cellK x c e _ z⟩
 ·obtain ⟨v,z⟩:=I.cell x c e;exact ⟨v,cellK x c e v z⟩
 ·obtain ⟨m,⟨o,_,_,ho,_⟩,_⟩:=I.loc;exact free _ o (fun z=>(hch _ z).2.1 rfl) ho I.free
 ·obtain ⟨v,o,ho,hd⟩:=I.cell x c e;exact free c o (fun z=>(hch c z).2.2.1 x c e rfl) ho (I.freeC x c e)
 ·obtain ⟨e,n,ne,nf,d⟩:=I.pin p hp;have nch:p.1∉ch:=fun z=>(hch p.1 z).2.2.2 p hp rfl;exact ⟨keep p.1 p.2 ne nf nch e n,free p.1 p.2 nch e n,ne,nf,d⟩
theorem Inv.un (I:Inv X pins σ H s) (u:Un X.fs [] H H' s.heap h') (hok:HOk X.prog X.w H' h'):Inv X pins σ H' { s with heap:=h',toks:=t' }:=by
 obtain ⟨m,⟨o,es,ep,ho,r⟩,_⟩:=id I.loc;obtain ⟨sl,hL⟩:=u.any ho I.free (by simp)
 exact I.step (g':=s.gens) (d':=s.drawn) (ch:=[]) (fun _ z=>nomatch z) (fun b o _ hb _ e n=>u.keep b o e n hb (by simp)) (fun b o _ hb _ e n=>u.slot b o e n hb (by simp)) (fun b o _ e n=>u.free b o e n (by simp)) (fun b o _ e=>u.there b o e (by simp)) u.tups u.frzs u.tbls (fun m' hm=>by
  obtain ⟨o',es',ep',ho',r'⟩:=hm;rw [ho] at ho';cases ho';exact ⟨_,es',ep',hL,r'⟩) hok I.bare
theorem Inv.call (I:Inv X pins σ H s) (u:Un (frs X.stack) ch H H' s.heap h') (hok:HOk X.prog X.w H' h') (hg:AllBare g')
  (hch:∀ b∈ch,(b∈X.ex\/X.s₀.heap.objs.size<=b)/\b≠X.env.locals/\(∀ x c,X.env.cells.lookup x=some c->c≠b)/\∀ p∈X.pn++pins,p.1≠b) :
  Inv X pins σ H' { s with heap:=h',gens:=g',drawn:=d',toks:=t' }:=by
 obtain ⟨m,⟨o,es,ep,ho,r⟩,_⟩:=id I.loc;obtain ⟨sl,hL⟩:=u.any ho I.free fun z=>(hch _ z).2.1 rfl
 exact I.step (ch:=ch) hch (fun b o hL hb hc e n=>u.keep b o e n (fun z=>(yB.mp (I.stkSub b z)).elim hL hb) hc) (fun b o _ _ hc e n=>u.any e n hc) (fun b o hc e n=>u.free b o e n hc) (fun b o hc e=>u.there b o e hc) u.tups u.frzs u.tbls (fun m' hm=>by
  obtain ⟨o',es',ep',ho',r'⟩:=hm;rw [ho] at ho';cases ho';exact ⟨_,es',ep',hL,r'⟩) hok hg
theorem Inv.turned (I:Inv X pins σ H s) (k:∀ b o,b≠it->s.heap.get? b=some o->h'.get? b=some o) (hn:H it=none) (hL:it≠X.env.locals)
  (h1:it∈X.ex\/X.s₀.heap.objs.size<=it) (h2:∀ x c,X.env.cells.lookup x=some c->c≠it) (h3:∀ p∈X.pn++pins,p.1≠it):Inv X pins σ H { s with heap:=h',toks:=t' }:=by
 have nit:∀ b u,H b=some u->b≠it:=fun b u e z=>by rw [z,hn] at e;cases e
 refine I.step (g':=s.gens) (d':=s.drawn) (ch:=[it]) (fun b hb=>?_) (fun b o _ _ hc e _=>k b o (fun z=>hc (by simp [z])) e) (fun b o _ _ hc e _=>⟨o.slots,k b o (fun z=>hc (by simp [z])) e⟩) (fun _ _ _ _ n=>n)
  (fun b o hc e=>⟨o,k b o (fun z=>hc (by simp [z])) e⟩) (fun _ _ e=>e) (fun _ _ _ e=>e) (fun b ps e=>⟨#[],by rw [e];simp⟩) (fun m hm=>?_) (fun b u e=>?_) I.bare
 ·have e:b=it:=by simpa using hb
  subst e;exact ⟨h1,hL,h2,h3⟩
 ·obtain ⟨o,es,ep,ho,r⟩:=hm;exact ⟨o,es,ep,k _ o (Yn hL) ho,r⟩
 ·refine (I.hok b u e).stay (fun c v hc q=>k c v ?_ q) (fun _ q=>q) fun _ _ q=>q;rcases hc with z | z
  ·rw [z];exact nit b u e
  ·exact nit c _ z
theorem Inv.tok (I:Inv X pins σ H s) (t:Nat):Inv X pins σ H { s with toks:=t }:=I.un (h':=s.heap) (t':=t) Un.refl I.hok
theorem Inv.kept (I:Inv X pins σ H s) (k:∀ b u,s.heap.get? b=some u->h'.get? b=some u):Inv X pins σ H { s with heap:=h',toks:=t' }:=I.un (Un.kept k) (I.hok.kept k)
theorem Inv.laid (I:Inv X pins σ H s) (k:∀ b u,s.heap.get? b=some u->h'.get? b=some u) (hp:s.heap.objs.size<=a) (new:ObjOk X.prog X.w (upd H a o) h' a o) :
  Inv X pins σ (upd H a o) { s with heap:=h',toks:=t' }:=I.un (Un.laid k hp (I.hok.fresh hp)) (I.hok.laid k hp new)
theorem Inv.write {x e:Addr} (I:Inv X pins σ H s) (mu:Mut (H x)) (he:e=x\/H e=some (.own x)) (k:∀ b u,b≠e->s.heap.get? b=some u->h'.get? b=some u) (heo:∃ u,h'.get? e=some u)
  (new:ObjOk X.prog X.w (upd H x o) h' x o):Inv X pins σ (upd H x o) { s with heap:=h',toks:=t' }:=I.un (Un.write mu he k heo) (I.hok.write mu he k heo new)
theorem Inv.weak {σ':List (Option V)} (I:Inv X pins σ H s) (hl:σ'.length=σ.length) (w:∀ (i:Nat) v,σ'[i]?=some (some v)->σ[i]?=some (some v)):Inv X pins σ' H s:=
 ⟨I.ok,I.os,I.bare,I.base,let ⟨m,hn,hl'⟩:=I.loc;⟨m,hn,fun i x v e1 e2 e3=>hl' i x v e1 (w i v e2) e3⟩,I.cell,I.free,I.freeC,I.pin,I.hok,hl.trans I.len⟩
theorem Inv.pins_of {pins':List (Addr×Obj)} (I:Inv X pins σ H s) (h:∀ p∈pins',s.heap.get? p.1=some p.2/\H p.1=none/\p.1≠X.env.locals/\p.1∉X.fs/\∀ v,p.2.data≠.cell v):Inv X pins' σ H s:=
 ⟨I.ok,I.os,I.bare,I.base,I.loc,I.cell,I.free,I.freeC,fun p hp=>(yz.mp hp).elim (fun z=>I.pin p (yP _ z)) (h p),I.hok,I.len⟩
theorem qdj (hN:N.Nodup) (a:N[i]?=some x) (b:N[j]?=some x):i=j:=by
 obtain ⟨h1,e1⟩:=yc.mp a;obtain ⟨h2,e2⟩:=yc.mp b;exact (List.getElem_inj hN).mp (e1.trans e2.symm)
theorem qci {Q:Unit->Shared->Prop} (I:Inv X pins σ H s) (hN:X.N.Nodup) (hi:X.N[i]?=some x) (hx:Loc X.env.scope x) (r:RelV v u)
  (h:∀ s',Inv X pins (σ.set i (some v)) H s'->(∃ a,Heap.SameBut a s.heap s'.heap/\(a=X.env.locals\/X.env.cells.lookup x=some a))->Q () s') (hf:X.fn x=true\/X.env.scope.names.lookup x=some .local:=by first | exact .inl rfl | exact .inr rfl | assumption):wpAny M A (storeName X.env x u) Q E s:=by
 obtain ⟨m,hn,hl⟩:=id I.loc;have hcls:(X.env.scope.kind==.class||(X.env.scope.kind==.module&&X.env.locals != X.env.globals))=false:=by rw [I.ok.kind];rfl
 have hiσ:i < σ.length:=by rw [I.len];exact (yc.mp hi).1
 have cne:=I.cne
 have tracked:∀ {a:Addr} {h':Heap},(∃ o,s.heap.get? a=some o/\H a=none)->Heap.SameBut a s.heap h'->HOk X.prog X.w H h':=fun {a h'} ha hs b ob e=>by
  obtain ⟨_,_,hfree⟩:=ha;refine (I.hok b ob e).stay (fun c w' hc q=>(hs.2 c ?_).trans q) (fun _ q=>q) fun _ _ q=>q;rintro rfl;rcases hc with rfl | hc
  ·rw [hfree] at e;cases e
  ·rw [hfree] at hc;cases hc
 rcases hx with hk | hk
 ·refine wpAny_storeName_local hk hn (fun h' hn' hs=>?_) hcls;obtain ⟨oL,_,_,hoL,_⟩:=id hn;refine h _ ⟨I.ok,I.os,I.bare,⟨fun b o e n hb hx=>?_,fun b o e n hb hx=>?_,I.base.free,fun b o e hx=>?_,I.base.tups,I.base.frzs,I.base.tbls⟩,⟨_,hn',fun j y v' e1 e2 e3=>?_⟩,fun y c e=>?_,I.free,I.freeC,fun p hp=>?_,tracked ⟨oL,hoL,I.free⟩ hs,by simpa using I.len⟩ ⟨_,hs,.inl rfl⟩
  ·exact (hs.2 b (yN (yj (yK e) I.ok.above))).trans (I.base.keep b o e n hb hx)
  ·obtain ⟨sl,e1⟩:=I.base.slot b o e n hb hx;exact ⟨sl,(hs.2 b (yN (yj (yK e) I.ok.above))).trans e1⟩
  ·obtain ⟨o',e1⟩:=I.base.there b o e hx;exact ⟨o',(hs.2 b (yN (yj (yK e) I.ok.above))).trans e1⟩
  ·by_cases hj:j=i
   ·subst hj;rw [hi] at e1;cases e1;rw [List.getElem?_set_self hiσ] at e2;cases e2;exact ⟨u,r,.inl ⟨hk,by simp⟩⟩
   ·rw [xz (Yn hj)] at e2;obtain ⟨u',r',q⟩:=hl j y v' e1 e2 e3;refine ⟨u',r',?_⟩;rcases q with ⟨k,e⟩ | ⟨k,c,e,z⟩
    ·refine .inl ⟨k,?_⟩;have:y≠x:=fun e=>hj (qdj hN e1 (e ▸ hi));simp [this,e]
    ·exact .inr ⟨k,c,e,z.sameBut hs (cne y c e)⟩
  ·obtain ⟨w',z⟩:=I.cell y c e;exact ⟨w',z.sameBut hs (cne y c e)⟩
  ·obtain ⟨e,n,ne,nf,d⟩:=I.pin p hp;exact ⟨(hs.2 p.1 ne).trans e,n,ne,nf,d⟩
 ·have hfn:X.fn x=true:=by
   rcases hf with z | z
   ·exact z
   ·rw [z] at hk;cases hk
  obtain ⟨c,hc⟩:=I.ok.has x (.inl hk);obtain ⟨w',z⟩:=I.cell x c hc;refine wpAny_storeName_cell I.ok.kind hk hc z (fun h' hc' hs=>?_);obtain ⟨oc,hoc,hocd⟩:=id z;refine h { s with heap:=h' } ⟨I.ok,I.os,I.bare,⟨fun b o e n hb hx=>?_,fun b o e n hb hx=>?_,I.base.free,fun b o e hx=>?_,I.base.tups,I.base.frzs,I.base.tbls⟩,⟨m,hn.sameBut hs (Yn (cne x c hc)),fun j y v' e1 e2 e3=>?_⟩,fun y c' e=>?_,I.free,I.freeC,fun p hp=>?_,tracked ⟨oc,hoc,I.freeC x c hc⟩ hs,by simpa using I.len⟩ ⟨c,hs,.inr hc⟩
  ·exact (hs.2 b (yN (yj (yK e) (I.ok.cab x c hfn hc)))).trans (I.base.keep b o e n hb hx)
  ·obtain ⟨sl,e1⟩:=I.base.slot b o e n hb hx;exact ⟨sl,(hs.2 b (yN (yj (yK e) (I.ok.cab x c hfn hc)))).trans e1⟩
  ·obtain ⟨o',e1⟩:=I.base.there b o e hx;exact ⟨o',(hs.2 b (yN (yj (yK e) (I.ok.cab x c hfn hc)))).trans e1⟩
  ·by_cases hj:j=i
   ·subst hj;rw [hi] at e1;cases e1;rw [List.getElem?_set_self hiσ] at e2;cases e2;exact ⟨u,r,.inr ⟨.inl hk,c,hc,hc'⟩⟩
   ·rw [xz (Yn hj)] at e2;obtain ⟨u',r',q⟩:=hl j y v' e1 e2 e3;refine ⟨u',r',?_⟩;rcases q with q | ⟨k,c',e,z'⟩
    ·exact .inl q
    ·refine .inr ⟨k,c',e,z'.sameBut hs ?_⟩;rintro rfl;exact hj (qdj hN e1 (I.ok.inj _ _ _ e hc ▸ hi))
  ·by_cases hcc:c'=c
   ·subst hcc;exact ⟨_,hc'⟩
   ·obtain ⟨w2,z2⟩:=I.cell y c' e;exact ⟨w2,z2.sameBut hs hcc⟩
  ·obtain ⟨e,n,ne,nf,d⟩:=I.pin p hp;refine ⟨(hs.2 p.1 ?_).trans e,n,ne,nf,d⟩;intro q;rw [q,hoc] at e;have q':oc=p.2:=ym e;exact d w' (by rw [<- q'];exact hocd)
theorem qdk {Q:Unit->Shared->Prop} (I:Inv X pins σ H s) (hN:X.N.Nodup) (hi:X.N[i]?=some x) (hx:Loc X.env.scope x) (r:RelV v u)
  (h:∀ s',Inv X pins (σ.set i (some v)) H s'->Q () s') (hf:X.fn x=true\/X.env.scope.names.lookup x=some .local:=by first | exact .inl rfl | exact .inr rfl | assumption):wpAny M A (storeName X.env x u) Q E s:=
 qci I hN hi hx r (fun s' I' _=>h s' I') hf
theorem Inv.call' (I:Inv X pins σ H s) (ho:s'.os=s.os) (u:Un (frs X.stack) ch H H' s.heap s'.heap) (hok:HOk X.prog X.w H' s'.heap) (hg:AllBare s'.gens)
  (hch:∀ b∈ch,(b∈X.ex\/X.s₀.heap.objs.size<=b)/\b≠X.env.locals/\(∀ x c,X.env.cells.lookup x=some c->c≠b)/\∀ p∈X.pn++pins,p.1≠b):Inv X pins σ H' s':=by
 obtain ⟨h',g',d',t',o'⟩:=s';have e:o'=s.os:=ho;subst e;exact I.call (g':=g') (t':=t') (d':=d') u hok hg hch
end
noncomputable abbrev XK:=Value->Option Addr->Hp->Prop
noncomputable abbrev St:=List (Option V)
noncomputable abbrev VK:=V->Hp->Prop
noncomputable abbrev TE:=St->Hp->VK->Prop
noncomputable abbrev TT:=St->Hp->(Bool->Hp->Prop)->Prop
noncomputable abbrev TA:=St->Hp->(List V->Hp->Prop)->Prop
structure Ends where
 nx:St->Hp->Prop
 rt:VK
 bk:St->Hp->Prop:=fun _ _=>False
 ct:St->Hp->Prop:=fun _ _=>False
noncomputable abbrev TS:=Ends->St->Hp->Prop
noncomputable def EP (X:Cx) (pins:List (Addr×Obj)) (σ:St) (Q:VK) (u:Value) (s':Shared):Prop:=∃ v H',Inv X pins σ H' s'/\RelV v u/\Q v H'
noncomputable def TP (X:Cx) (pins:List (Addr×Obj)) (σ:St) (Q:Bool->Hp->Prop) (b:Bool) (s':Shared):Prop:=∃ H',Inv X pins σ H' s'/\Q b H'
noncomputable def AP (X:Cx) (pins:List (Addr×Obj)) (σ:St) (Q:List V->Hp->Prop) (us:List Value) (s':Shared):Prop:=∃ vs H',Inv X pins σ H' s'/\Vals vs us/\Q vs H'
noncomputable def SP (X:Cx) (pins:List (Addr×Obj)) (D:Ends) (f:Flow) (s':Shared):Prop:=
 match f with
 | .next=>∃ σ' H',Inv X pins σ' H' s'/\D.nx σ' H'
 | .brk=>∃ σ' H',Inv X pins σ' H' s'/\D.bk σ' H'
 | .cont=>∃ σ' H',Inv X pins σ' H' s'/\D.ct σ' H'
 | .ret u=>∃ v σ' H',Inv X pins σ' H' s'/\RelV v u/\D.rt v H'
noncomputable def PE (X:Cx) (e:Expr) (t:TE):Prop:=
 ∀ (pins:List (Addr×Obj)) (s:Shared) (σ:St) (H:Hp) (Q:VK),Inv X pins σ H s->t σ H Q->wpAny (model X.prog X.w) X.A (eval e X.env) (EP X pins σ Q) X.xe s
noncomputable def PT (X:Cx) (e:Expr) (t:TT):Prop:=
 ∀ (pins:List (Addr×Obj)) (s:Shared) (σ:St) (H:Hp) (Q:Bool->Hp->Prop),Inv X pins σ H s->t σ H Q->wpAny (model X.prog X.w) X.A (isTrue e X.env (eval e X.env)) (TP X pins σ Q) X.xe s
noncomputable def PW (X:Cx) (e:Expr) (t:TT):Prop:=
 ∀ (whole:Sem Value) (pins:List (Addr×Obj)) (s:Shared) (σ:St) (H:Hp) (Q:Bool->Hp->Prop),Inv X pins σ H s->t σ H Q->wpAny (model X.prog X.w) X.A (isTrue e X.env whole) (TP X pins σ Q) X.xe s
theorem PW.pt {t:TT} (h:PW X e t):PT X e t:=h _
noncomputable def PA (X:Cx) (es:List Expr) (t:TA):Prop:=
 ∀ (pos:Pos) (pins:List (Addr×Obj)) (s:Shared) (σ:St) (H:Hp) (Q:List V->Hp->Prop),Inv X pins σ H s->t σ H Q->wpAny (model X.prog X.w) X.A (spliced (backTo pos (starEach es X.env))) (AP X pins σ Q) X.xe s
noncomputable def PS (X:Cx) (st:Stmt) (t:TS):Prop:=
 ∀ (pins:List (Addr×Obj)) (s:Shared) (σ:St) (H:Hp) (D:Ends),Inv X pins σ H s->t D σ H->wpAny (model X.prog X.w) X.A (exec st X.env) (SP X pins D) X.xe s
noncomputable def PSs (X:Cx) (st:List Stmt) (t:TS):Prop:=
 ∀ (pins:List (Addr×Obj)) (s:Shared) (σ:St) (H:Hp) (D:Ends),Inv X pins σ H s->t D σ H->wpAny (model X.prog X.w) X.A (execs st X.env) (SP X pins D) X.xe s
theorem thn {t:Sem α} {Q Q':α->Shared->Prop} (h:wpAny M A t Q E s) (hQ:∀ a s,Q a s->Q' a s):wpAny M A t Q' E s:=YV h hQ fun _ _ x=>x
section
variable {X:Cx}
noncomputable def qfP (i:Nat):TE:=fun σ H Q=>∃ v,σ[i]?=some (some v)/\Q v H
noncomputable def tC (v:V):TE:=fun _ H Q=>Q v H
theorem pe_var (hN:X.N[i]?=some x) (hv:Vis X.env.scope x) (hd:(x==("__debug__":Str))=false:=by decide) (hcd:(x==("__classdict__":Str))=false:=by decide):PE X (.Name x pos) (qfP i):=by
 intro pins s σ H Q I h;obtain ⟨v,e,h⟩:=h;obtain ⟨m,hn,hl⟩:=I.loc;obtain ⟨u,r,l⟩:=hl i x v hN e hv;have fin:EP X pins σ Q u s:=⟨v,H,I,r,h⟩;rcases l with ⟨hk,hm⟩ | ⟨hk,c,hc,hcell⟩
 ·exact wpAny_Name (wpAny_loadName_local I.ok.kind hk hn hm fin) hd
 ·rcases hk with hk | hk
  ·exact wpAny_Name (wpAny_loadName_cell I.ok.kind hk hc hcell fin) hd
  ·exact wpAny_Name (wpAny_loadName_free I.ok.kind hk hc hcell fin hcd) hd
theorem qh {i j pos}:PE X (.Constant (.int i) j pos) (tC (.int i)):=fun _ _ _ H _ I h=>wpAny_Constant_int ⟨.int i,H,I.tok _,⟨_,rfl⟩,h⟩
theorem za {b j pos}:PE X (.Constant (.bool b) j pos) (tC (.bl b)):=fun _ _ _ H _ I h=>Constant_bool ⟨.bl b,H,I,rfl,h⟩
theorem qap {j pos}:PE X (.Constant .none j pos) (tC .non):=fun _ _ _ H _ I h=>Constant_none ⟨.non,H,I,rfl,h⟩
theorem qa2 {x j pos}:PE X (.Constant (.str x) j pos) (tC (.str x)):=fun _ _ _ H _ I h=>Calls.Constant_str ⟨.str x,H,I.tok _,⟨_,rfl⟩,h⟩
noncomputable def Gl (X:Cx) (x:Str):Prop:=X.env.kindOf x=some .globalImplicit
theorem qcU {Q:Value->Shared->Prop} (I:Inv X pins σ H s) (hg:Gl X x) (hm:X.mg x=some u) (h:Q u s)
  (hd:(x==("__debug__":Str))=false:=by decide):wpAny (model X.prog X.w) X.A (eval (.Name x pos) X.env) Q E s:=
 Calls.Name_function_global I.ok.kind hg (Calls.loadGlobal_global (by rw [I.ok.glob];exact I.mod.glob.keeps I.bk) hm h) hd
theorem qaw {Q:Value->Shared->Prop} (I:Inv X pins σ H s) (hg:Gl X x) (hm:X.mg x=none) (hv:bootBuiltins x=some u) (h:Q u s)
  (hn:x≠"__name__":=by decide) (hd:(x==("__debug__":Str))=false:=by decide):wpAny (model X.prog X.w) X.A (eval (.Name x pos) X.env) Q E s:=by
 obtain ⟨mb,h1,h2⟩:=I.mod.blt;exact Calls.Name_function_global I.ok.kind hg (Calls.loadGlobal_builtin (by rw [I.ok.glob];exact I.mod.glob.keeps I.bk) hm (by rw [I.ok.blt];exact h1.keeps I.bk) ((h2 x hn).trans hv) h) hd
theorem pe_glob (hg:Gl X x) (hm:X.mg x=some u) (r:RelV v u) (hd:(x==("__debug__":Str))=false:=by decide):PE X (.Name x pos) (tC v):=
 fun _ _ _ H _ I h=>qcU I hg hm ⟨v,H,I,r,h⟩ hd
theorem jX (hg:Gl X x) (hm:X.mg x=none) (hv:bootBuiltins x=some u) (r:RelV v u) (hn:x≠"__name__":=by decide) (hd:(x==("__debug__":Str))=false:=by decide):PE X (.Name x pos) (tC v):=
 fun _ _ _ H _ I h=>qaw I hg hm hv ⟨v,H,I,r,h⟩ hn hd
variable {a b:Expr} {ta tb:TE} {pos:Pos}
noncomputable def tB (t:TE):TT:=fun σ H Q=>t σ H fun x H1=>∃ c,x=.bl c/\Q c H1
theorem qZ (h:PE X e t) (he:∀ whole,isTrue e X.env whole=(do let v <- whole;standAt e.pos;holding [v] (truthy v)):=by intro _;rfl):PT X e (tB t):=by
 intro pins s σ H Q I hw;refine isTrue_plain (thn (h pins s σ H _ I hw) fun v s1 ⟨x,H1,I1,r1,q1⟩=>?_) (he _);obtain ⟨d,rfl,q⟩:=q1;cases r1;exact YO ⟨H1,I1,q⟩
variable {tA tB':TT} {qcT:List Expr}
noncomputable def qf2 (t u:TT):TT:=fun σ H Q=>t σ H fun c H1=>if c=true then u σ H1 Q else Q false H1
noncomputable def tOr (t u:TT):TT:=fun σ H Q=>t σ H fun c H1=>if c=true then Q true H1 else u σ H1 Q
noncomputable def qf3 (t:TT):TT:=fun σ H Q=>t σ H fun c H1=>Q (!c) H1
theorem qbX (ha:PT X a tA):PW X (.BoolOp .And [a] pos) tA:=by
 intro wh pins s σ H Q I h;refine isTrue_and (thn (ha pins s σ H Q I h) fun c s1 e=>?_)
 cases c with
 | true=>exact isTrue_and_nil e
 | false=>exact e
theorem qax (ha:PT X a tA):PW X (.BoolOp .Or [a] pos) tA:=by
 intro wh pins s σ H Q I h;refine isTrue_or (thn (ha pins s σ H Q I h) fun c s1 e=>?_)
 cases c with
 | false=>exact isTrue_or_nil e
 | true=>exact e
theorem qbj (ha:PT X a tA) (hb:PW X (.BoolOp .And (b::qcT) pos) tB'):PW X (.BoolOp .And (a::b::qcT) pos) (qf2 tA tB'):=by
 intro wh pins s σ H Q I h;refine isTrue_and (thn (ha pins s σ H _ I h) fun c s1 ⟨H1,I1,q1⟩=>?_)
 cases c with
 | true=>exact hb wh pins s1 σ H1 Q I1 q1
 | false=>exact ⟨H1,I1,q1⟩
theorem qbI (ha:PT X a tA) (hb:PW X (.BoolOp .Or (b::qcT) pos) tB'):PW X (.BoolOp .Or (a::b::qcT) pos) (tOr tA tB'):=by
 intro wh pins s σ H Q I h;refine isTrue_or (thn (ha pins s σ H _ I h) fun c s1 ⟨H1,I1,q1⟩=>?_)
 cases c with
 | true=>exact ⟨H1,I1,q1⟩
 | false=>exact hb wh pins s1 σ H1 Q I1 q1
theorem je (ha:PT X a tA):PT X (.UnaryOp .Not a pos) (qf3 tA):=by
 intro pins s σ H Q I h;exact isTrue_not (ha pins s σ H (fun c H1=>Q (!c) H1) I h)
noncomputable def qfj (ta tb:TE):TE:=fun σ H Q=>ta σ H fun x H1=>∃ c,x=.bl c/\if c=true then tb σ H1 Q else Q (.bl false) H1
noncomputable def qf4 (ta tb:TE):TE:=fun σ H Q=>ta σ H fun x H1=>∃ c,x=.bl c/\if c=true then Q (.bl true) H1 else tb σ H1 Q
noncomputable def qfk (ta:TE):TE:=fun σ H Q=>ta σ H fun x H1=>∃ c,x=.bl c/\Q (.bl (!c)) H1
theorem qbL {op} (h:PE X a t):PE X (.BoolOp op [a] pos) t:=fun pins s σ H Q I hw=>BoolOp_one (h pins s σ H Q I hw)
theorem qcj (ha:PE X a ta) (hb:PE X (.BoolOp .And (b::qcT) pos) tb):PE X (.BoolOp .And (a::b::qcT) pos) (qfj ta tb):=by
 intro pins s σ H Q I h;refine BoolOp_and (thn (ha pins s σ H _ I h) fun v s1 ⟨x,H1,I1,r1,q1⟩=>?_);obtain ⟨c,rfl,q1⟩:=q1;cases r1;refine YO ?_
 cases c with
 | true=>exact hb pins s1 σ H1 Q I1 q1
 | false=>exact ⟨.bl false,H1,I1,rfl,q1⟩
theorem pe_or (ha:PE X a ta) (hb:PE X (.BoolOp .Or (b::qcT) pos) tb):PE X (.BoolOp .Or (a::b::qcT) pos) (qf4 ta tb):=by
 intro pins s σ H Q I h;refine BoolOp_or (thn (ha pins s σ H _ I h) fun v s1 ⟨x,H1,I1,r1,q1⟩=>?_);obtain ⟨c,rfl,q1⟩:=q1;cases r1;refine YO ?_
 cases c with
 | false=>exact hb pins s1 σ H1 Q I1 q1
 | true=>exact ⟨.bl true,H1,I1,rfl,q1⟩
theorem pe_not (ha:PE X a ta):PE X (.UnaryOp .Not a pos) (qfk ta):=by
 intro pins s σ H Q I h;refine UnaryOp_ (thn (ha pins s σ H _ I h) fun v s1 ⟨x,H1,I1,r1,q1⟩=>?_);obtain ⟨c,rfl,q1⟩:=q1;cases r1;exact not_of (YO ⟨.bl (!c),H1,I1,rfl,q1⟩)
noncomputable def tIf (t:TT) (ta tb:TE):TE:=fun σ H Q=>t σ H fun c H1=>if c=true then ta σ H1 Q else tb σ H1 Q
theorem qdl (hc:PT X c tA) (ha:PE X a ta) (hb:PE X b tb):PE X (.IfExp c a b pos) (tIf tA ta tb):=by
 intro pins s σ H Q I h;refine wpAny_IfExp (thn (hc pins s σ H _ I h) fun d s1 ⟨H1,I1,q1⟩=>?_)
 cases d with
 | true=>exact ha pins s1 σ H1 Q I1 q1
 | false=>exact hb pins s1 σ H1 Q I1 q1
end
noncomputable def SqL (K:yg) (H:Hp) (a:Addr) (xs:List V):Prop:=
 Rd H a (.lst xs) \/
  ∃ (o:Obj) (its:Array Value) (n:Nat),K.lookup a=some o/\o.cls=.type "list"/\o.dict=none/\o.data=.seq its n/\its.size<=sizeLine/\Vals xs its.toList
noncomputable def SqT (K:yg) (H:Hp) (a:Addr) (xs:List V):Prop:=
 Rd H a (.tup xs) \/
  ∃ (o:Obj) (its:Array Value) (n:Nat),K.lookup a=some o/\o.cls=.type "tuple"/\o.data=.seq its n/\its.size<=sizeLine/\Vals xs its.toList
noncomputable def absV:Value->Option V
 | .none=>some .non
 | .bool b=>some (.bl b)
 | .int i _=>some (.int i)
 | .str x _=>some (.str x)
 | .bytes b _=>some (.byt b)
 | .float b _=>some (.flt b)
 | .ref a=>some (.ref a)
 | .type n=>some (.ty n)
 | _=>none
theorem RelV.abs {x:V} (r:RelV x u):absV u=some x:=by
 cases x with
 | non=>cases r;rfl
 | bl _=>cases r;rfl
 | int _=>obtain ⟨t,rfl⟩:=r;rfl
 | str _=>obtain ⟨t,rfl⟩:=r;rfl
 | byt _=>obtain ⟨t,rfl⟩:=r;rfl
 | flt _=>obtain ⟨t,rfl⟩:=r;rfl
 | ref _=>cases r;rfl
 | ty _=>cases r;rfl
theorem RelV.inj {x:V} (r:RelV x u) (q:RelV y u):x=y:=ym (r.abs.symm.trans q.abs)
theorem Vals.inj:∀ {xs ys:List V} {us:List Value},Vals xs us->Vals ys us->xs=ys
 | _,_,_,.nil,.nil=>rfl
 | _,_,_,.cons r t,.cons r' t'=>by rw [r.inj r',Vals.inj t t']
section
variable {X:Cx} {pins:List (Addr×Obj)} {σ:St} {H:Hp} {s:Shared} {a:Addr} {xs ys:List V}
theorem SqL.of {K:yg} (h:H a=some (.lst xs)):SqL K H a xs:=.inl (.inl h)
theorem SqT.of {K:yg} (h:H a=some (.tup xs)):SqT K H a xs:=.inl (.inl h)
theorem Inv.list (I:Inv X pins σ H s) (h:SqL X.K H a xs):∃ its:List Value,Vals xs its/\PlainL s.heap a its.toArray/\xs.length<=sizeLine:=by
 rcases h with h | ⟨o,its,n,hk,hc,hd,hs,hz,r⟩
 ·obtain ⟨z,its,n,r,e⟩:=h.ok I.hok;exact ⟨its,r,⟨_,n,e,rfl,rfl,rfl⟩,z⟩
 ·refine ⟨its.toList,r,⟨o,n,I.kIn a o hk,hc,hd,by simpa using hs⟩,?_⟩;have e:=r.length;simp only [xH] at e;omega
theorem Inv.tuple (I:Inv X pins σ H s) (h:SqT X.K H a xs):∃ its:List Value,Vals xs its/\IsTup s.heap a its.toArray/\xs.length<=sizeLine:=by
 rcases h with h | ⟨o,its,n,hk,hc,hs,hz,r⟩
 ·obtain ⟨z,its,r,p⟩:=h.ok I.hok;exact ⟨its,r,p,z⟩
 ·refine ⟨its.toList,r,⟨o,I.kIn a o hk,hc,n,by simpa using hs⟩,?_⟩;have e:=r.length;simp only [xH] at e;omega
theorem Inv.list_inj (I:Inv X pins σ H s) (h:SqL X.K H a xs) (h':SqL X.K H a ys):xs=ys:=by
 obtain ⟨its,r,⟨o,n,e,_,_,d⟩,_⟩:=I.list h;obtain ⟨its',r',⟨o',n',e',_,_,d'⟩,_⟩:=I.list h';rw [e] at e';cases e';rw [d] at d'
 injection d' with d1 _
 have:its=its':=by simpa using congrArg Array.toList d1
 subst this;exact r.inj r'
theorem Inv.tuple_inj (I:Inv X pins σ H s) (h:SqT X.K H a xs) (h':SqT X.K H a ys):xs=ys:=by
 obtain ⟨its,r,⟨o,e,_,n,d⟩,_⟩:=I.tuple h;obtain ⟨its',r',⟨o',e',_,n',d'⟩,_⟩:=I.tuple h';rw [e] at e';cases e';rw [d] at d'
 injection d' with d1 _
 have:its=its':=by simpa using congrArg Array.toList d1
 subst this;exact r.inj r'
end
noncomputable abbrev Cx.wish (X:Cx) (E:Value->Shared->Prop):Cx:={ X with xe:=E }
noncomputable abbrev Cx.nox (X:Cx):Cx:=X.wish fun _ _=>False
theorem Cx.Ok.wish (ok:X.Ok) (E:Value->Shared->Prop):(X.wish E).Ok:=
 ⟨ok.mod,ok.kind,ok.glob,ok.blt,ok.above,ok.inj,ok.has,ok.cab,ok.hd,ok.frames,ok.stk,ok.exf,ok.bs,ok.bsz,ok.noex,ok.exfs,ok.funs,ok.frf⟩
theorem Cx.Ok.unwish (ok:(X.wish E).Ok):X.Ok:=
 ⟨ok.mod,ok.kind,ok.glob,ok.blt,ok.above,ok.inj,ok.has,ok.cab,ok.hd,ok.frames,ok.stk,ok.exf,ok.bs,ok.bsz,ok.noex,ok.exfs,ok.funs,ok.frf⟩
section
variable {X:Cx} {pins:List (Addr×Obj)} {σ:St} {H:Hp} {s:Shared} {E:Value->Shared->Prop}
theorem Inv.wish (I:Inv X pins σ H s) (E:Value->Shared->Prop):Inv (X.wish E) pins σ H s:=⟨I.ok.wish E,I.os,I.bare,I.base,I.loc,I.cell,I.free,I.freeC,I.pin,I.hok,I.len⟩
theorem Inv.unwish (I:Inv (X.wish E) pins σ H s):Inv X pins σ H s:=⟨I.ok.unwish,I.os,I.bare,I.base,I.loc,I.cell,I.free,I.freeC,I.pin,I.hok,I.len⟩
theorem SP.unwish {f:Flow} (h:SP (X.wish E) pins D f s'):SP X pins D f s':=by
 cases f with
 | next=>obtain ⟨σ',H',I,q⟩:=h;exact ⟨σ',H',I.unwish,q⟩
 | brk=>obtain ⟨σ',H',I,q⟩:=h;exact ⟨σ',H',I.unwish,q⟩
 | cont=>obtain ⟨σ',H',I,q⟩:=h;exact ⟨σ',H',I.unwish,q⟩
 | ret u=>obtain ⟨v,σ',H',I,r,q⟩:=h;exact ⟨v,σ',H',I.unwish,r,q⟩
theorem PSs.nox {st:List Stmt} {t:TS} (h:PSs X.nox st t):PSs X st t:=fun pins s σ H D I hw =>
 YV (h pins s σ H D (I.wish _) hw) (fun _ _ q=>q.unwish) fun _ _ z=>False.elim z
end
section
variable {X:Cx} {st:Stmt} {qcT:List Stmt} {t u:TS} {e:Expr} {te:TE} {pos:Pos}
noncomputable def qfl:TS:=fun D σ H=>D.nx σ H
noncomputable def qfQ (t u:TS):TS:=fun D σ H=>t { D with nx:=u D } σ H
theorem qv:PSs X [] qfl:=fun _ _ σ H _ I h=>XW ⟨σ,H,I,h⟩
theorem qc (h1:PS X st t) (h2:PSs X qcT u):PSs X (st::qcT) (qfQ t u):=by
 intro pins s σ H D I h;refine wpAny_execs_cons (thn (h1 pins s σ H { D with nx:=u D } I h) fun f s1 q=>?_)
 cases f with
 | next =>
  obtain ⟨σ',H',I',q⟩:=q;exact h2 pins s1 σ' H' D I' q
 | ret v=>exact q
 | brk=>exact q
 | cont=>exact q
theorem qe (h1:PS X st t):PSs X [st] t:=by
 intro pins s σ H D I h;refine wpAny_execs_cons (thn (h1 pins s σ H D I h) fun f s1 q=>?_)
 cases f with
 | next=>exact XW q
 | ret v=>exact q
 | brk=>exact q
 | cont=>exact q
theorem Inv.quiet (I:Inv X pins σ H s):interactive X.env=false:=by simp [interactive,I.ok.kind]
noncomputable def qfm (te:TE):TS:=fun D σ H=>te σ H fun _ H1=>D.nx σ H1
theorem qL (he:PE X e te) (hs:swapsWith e none pos.line X.env=pure false:=by rfl):PS X (.Expr e pos) (qfm te):=by
 intro pins s σ H D I h;exact wpAny_Expr_any (thn (he pins s σ H _ I h) fun v s1 ⟨x,H1,I1,r1,q1⟩=>⟨σ,H1,I1,q1⟩) I.quiet hs
noncomputable def qf5 (te:TE):TS:=fun D σ H=>te σ H D.rt
theorem qm (he:PE X e te):PS X (.Return (some e) pos) (qf5 te):=by
 intro pins s σ H D I h;exact wpAny_Return_some (thn (he pins s σ H _ I h) fun v s1 ⟨x,H1,I1,r1,q1⟩=>⟨x,σ,H1,I1,r1,q1⟩)
noncomputable def qfn:TS:=fun D _ H=>D.rt .non H
theorem ps_retN:PS X (.Return none pos) qfn:=fun _ _ σ H _ I h=>wpAny_Return_none ⟨.non,σ,H,I,rfl,h⟩
noncomputable def qf6 (c:TT) (t u:TS):TS:=fun D σ H=>c σ H fun b H1=>if b=true then t D σ H1 else u D σ H1
theorem qT {a b:List Stmt} (hc:PT X c tc) (ha:PSs X a t) (hb:PSs X b u):PS X (.If c a b pos) (qf6 tc t u):=by
 intro pins s σ H D I h;refine wpAny_If (thn (hc pins s σ H _ I h) fun d s1 ⟨H1,I1,q1⟩=>?_)
 cases d with
 | true=>exact ha pins s1 σ H1 D I1 q1
 | false=>exact hb pins s1 σ H1 D I1 q1
noncomputable def tNever:TS:=fun _ _ _=>False
theorem jo:PS X st tNever:=fun _ _ _ _ _ _ h=>h.elim
end
noncomputable abbrev TG:=V->St->Hp->(St->Hp->Prop)->Prop
noncomputable abbrev TGs:=List V->St->Hp->(St->Hp->Prop)->Prop
noncomputable def PG (X:Cx) (target:Expr) (t:TG):Prop:=
 ∀ (pins:List (Addr×Obj)) (s:Shared) (σ:St) (H:Hp) (v:V) (u:Value) (Q:St->Hp->Prop),Inv X pins σ H s->RelV v u->t v σ H Q ->
  wpAny (model X.prog X.w) X.A (assign target X.env u) (fun _ s'=>∃ σ' H',Inv X pins σ' H' s'/\Q σ' H') X.xe s
noncomputable def PGs (X:Cx) (ts:List Expr) (t:TGs):Prop:=
 ∀ (pins:List (Addr×Obj)) (s:Shared) (σ:St) (H:Hp) (vs:List V) (us:List Value) (Q:St->Hp->Prop),Inv X pins σ H s->Vals vs us->t vs σ H Q ->
  wpAny (model X.prog X.w) X.A (assignInOrder ((assignEach ts X.env).map (·.2)) us) (fun _ s'=>∃ σ' H',Inv X pins σ' H' s'/\Q σ' H') X.xe s
noncomputable abbrev qfo:=V->V->V->Hp->(Hp->Prop)->Prop
noncomputable def qfR (X:Cx) (t:qfo):Prop:=
 ∀ (pins:List (Addr×Obj)) (s:Shared) (σ:St) (H:Hp) (o i v:V) (ov iv u:Value) (Q:Hp->Prop),Inv X pins σ H s->RelV o ov->RelV i iv->RelV v u->t o i v H Q ->
  wpAny (model X.prog X.w) X.A (setItem ov iv u) (fun _ s'=>∃ H',Inv X pins σ H' s'/\Q H') X.xe s
section
variable {X:Cx} {pos:Pos}
noncomputable def qbY (i:Nat):TG:=fun v σ H Q=>Q (σ.set i (some v)) H
theorem qq (hN:X.N.Nodup) (hi:X.N[i]?=some x) (hx:Loc X.env.scope x) (hf:X.fn x=true\/X.env.scope.names.lookup x=some .local:=by first | exact .inl rfl | exact .inr rfl | assumption):PG X (.Name x pos) (qbY i):=by
 intro pins s σ H v u Q I r h;exact wpAny_assign_Name (qdk I hN hi hx r (fun s' I'=>⟨_,H,I',h⟩) hf)
noncomputable def qf7:TGs:=fun vs σ H Q=>vs=[]/\Q σ H
noncomputable def qeZ (t:TG) (u:TGs):TGs:=fun vs σ H Q=>∃ v r,vs=v::r/\t v σ H fun σ' H'=>u r σ' H' Q
theorem qaT:PGs X [] qf7:=by
 intro pins s σ H vs us Q I r h;obtain ⟨e,h⟩:=h;subst e;cases r;exact assignInOrder_nil ⟨σ,H,I,h⟩
theorem jw {t:TG} {u:TGs} (h1:PG X e t) (h2:PGs X es u)
  (hs:(assignEach (e::es) X.env).map (·.2)=assign e X.env::(assignEach es X.env).map (·.2):=by rfl):PGs X (e::es) (qeZ t u):=by
 intro pins s σ H vs us Q I r h;obtain ⟨v,vr,e1,h⟩:=h;subst e1
 cases r with
 | cons r rr =>
  rw [hs];refine assignInOrder_cons (thn (h1 pins s σ H _ _ _ I r h) fun _ s1 ⟨σ1,H1,I1,q1⟩=>?_);exact h2 pins s1 σ1 H1 _ _ Q I1 rr q1
noncomputable def qf8 (K:yg) (n:Nat) (t:TGs):TG:=fun v σ H Q=>∃ a xs,v=.ref a/\SqT K H a xs/\xs.length=n/\t xs σ H Q
theorem qbM {k:Nat} {t:TGs} (hc:X.calm=true) (h:PGs X es t)
  (hn:(assignEach es X.env).length=n:=by rfl) (hst:(assignEach es X.env).findIdx? (·.1)=none:=by rfl):PG X (.Tuple es k pos) (qf8 X.K n t):=by
 intro pins s σ H v u Q I r hw;obtain ⟨a,xs,e1,hq,hl,hw⟩:=hw;subst e1;cases r;obtain ⟨its,rv,ht,hz⟩:=I.tuple hq;refine assign_Tuple_tuple (I.ok.hd hc) ht (by simp [hn,<- hl,rv.length]) hst fun h' hx=>?_;have I1:Inv X pins σ H { s with heap:=h' }:=I.kept (t':=s.toks) fun b o e=>hx b o (yN (yK e)) e;exact h pins _ σ H xs _ Q I1 (by simpa using rv) hw
noncomputable def qf9 (to ti:TE) (t:qfo):TG:=fun v σ H Q=>to σ H fun o H1=>ti σ H1 fun i H2=>t o i v H2 fun H3=>Q σ H3
theorem jJ {o i:Expr} {to ti:TE} {t:qfo} (ho:PE X o to) (hi:PE X i ti) (hs:qfR X t)
  (ha:∀ v,assign (.Subscript o i pos) X.env v=(do
   let ov <- holding [v] (eval o X.env);let iv <- holding [v,ov] (eval i X.env)
   standAt pos
   holding [v,ov,iv] (setItem ov iv v)
   release [v,ov,iv] []):=by intro _;rfl):PG X (.Subscript o i pos) (qf9 to ti t):=by
 intro pins s σ H v u Q I r h;rw [ha];refine yr (Ys (thn (ho pins s σ H _ I h) fun ov s1 ⟨x,H1,I1,r1,q1⟩=>?_));refine yr (Ys (thn (hi pins s1 σ H1 _ I1 q1) fun iv s2 ⟨y,H2,I2,r2,q2⟩=>?_));refine yr (wpAny_standAt (yr (Ys (thn (hs pins s2 σ H2 x y v ov iv u _ I2 r1 r2 r q2) fun _ s3 ⟨H3,I3,q3⟩=>?_))));exact wpAny_release ⟨σ,H3,I3,q3⟩
noncomputable def qfp (te:TE) (g:TG):TS:=fun D σ H=>te σ H fun x H1=>g x σ H1 D.nx
theorem jK (he:PE X e te) (hg:PG X tg g) (hs:swapsWithSole [tg] e pos.line X.env=pure false:=by rfl) (hw:swappedStores [tg] e X.env=pure none:=by rfl)
  (h1:(assignEach [tg] X.env).map (·.2)=[assign tg X.env]:=by rfl):PS X (.Assign [tg] e pos) (qfp te g):=by
 intro pins s σ H D I h;refine wpAny_Assign_stores (thn (he pins s σ H _ I h) fun v s1 ⟨x,H1,I1,r1,q1⟩=>?_) hs hw;rw [h1];exact thn (hg pins s1 σ H1 x v _ I1 r1 q1) fun _ s2 q=>q
theorem qj {pos':Pos} (hN:X.N.Nodup) (hi:X.N[i]?=some x) (hx:Loc X.env.scope x) (he:PE X e te) (hs:swapsWith e (some (.Name x pos')) pos.line X.env=pure false:=by rfl) (hf:X.fn x=true\/X.env.scope.names.lookup x=some .local:=by first | exact .inl rfl | exact .inr rfl | assumption) :
  PS X (.Assign [.Name x pos'] e pos) (qfp te (qbY i)):=by
 intro pins s σ H D I h;refine wpAny_Assign_Name (thn (he pins s σ H _ I h) fun v s1 ⟨y,H1,I1,r1,q1⟩=>?_) hs;exact qdk I1 hN hi hx r1 (fun s2 I2=>⟨_,H1,I2,q1⟩) hf
end
section
variable {X:Cx} {pos:Pos}
noncomputable def tWhile (c:TT) (tb:TS):TS:=fun D σ H=>∃ W:Nat->St->Hp->Prop,(∃ m,W m σ H)/\∀ m σ H,W m σ H ->
 c σ H fun b H1=>if b=true then ∃ N:St->Hp->Prop,(∀ σ' H',N σ' H'->∃ m',m' < m/\W m' σ' H')/\tb { D with nx:=N,ct:=N,bk:=D.nx } σ H1 else D.nx σ H1
theorem zZ (hp:PassesOwn (model X.prog X.w) X.A X.env X.xe) (hc:PT X c tc) (hb:PSs X body tb):PS X (.While c body [] pos) (tWhile tc tb):=by
 intro pins s σ H D I h;obtain ⟨W,⟨m0,w0⟩,turn⟩:=h;refine wpAny_While (codeAny_whileLoop (fun n s'=>∃ σ' H',Inv X pins σ' H' s'/\W n σ' H') ?_ m0 ⟨σ,H,I,w0⟩);rintro n s1 ⟨σ1,H1,I1,w1⟩;refine xw hp (thn (hc pins s1 σ1 H1 _ I1 (turn n σ1 H1 w1)) fun b s2 ⟨H2,I2,q2⟩=>?_)
 cases b with
 | true =>
  obtain ⟨N,hN,q2⟩:=q2;rw [yF rfl];refine xw hp (thn (hb pins s2 σ1 H2 _ I2 q2) fun f s3 q3=>?_)
  cases f with
  | next =>
   obtain ⟨σ3,H3,I3,n3⟩:=q3;obtain ⟨m',hm,w3⟩:=hN σ3 H3 n3;exact ⟨m',hm,σ3,H3,I3,w3⟩
  | cont =>
   obtain ⟨σ3,H3,I3,n3⟩:=q3;obtain ⟨m',hm,w3⟩:=hN σ3 H3 n3;exact ⟨m',hm,σ3,H3,I3,w3⟩
  | brk=>exact q3
  | ret v=>exact q3
 | false =>
  rw [yC Yl];exact XW ⟨σ1,H2,I2,q2⟩
end
structure It where
 go:Nat->Hp->Prop
 yld:Nat->Hp->V->Hp->Prop
 stop:Nat->Hp->Prop
noncomputable def qcQ (X:Cx) (pins:List (Addr×Obj)) (H:Hp) (b:Addr):Prop:=
 H b=none/\b≠X.env.locals/\b∉X.fs/\(b∈X.ex\/X.s₀.heap.objs.size<=b)/\(∀ x c,X.env.cells.lookup x=some c->c≠b)/\∀ p∈X.pn++pins,p.1≠b
theorem Inv.fpOk {H':Hp} (I:Inv X pins σ H s) (hb:s.heap.objs.size<=b) (hn:H' b=none):qcQ X pins H' b:=by
 refine ⟨hn,Yh (yj I.lt hb),I.nofs hb,.inr (yi I.sz hb),fun x c e z=>?_,fun p hp z=>?_⟩
 ·obtain ⟨v,q⟩:=I.cell x c e;exact absurd (yj q.lt (by rw [z];exact hb)) (Yx _)
 ·exact absurd (yj (yK (I.pin p hp).1) (by rw [z];exact hb)) (Yx _)
structure Turn (P:Program) (w:World) (K:yg) (tg:Expr) (J:It) (fp:List Addr) (it:Addr) (tn:Nat->Heap->Prop):Prop where
 mem:it∈fp
 obj:∀ i h,tn i h->∀ b∈fp,∃ o,h.get? b=some o/\∀ v,o.data≠.cell v
 keep:∀ i h h',tn i h->(∀ b∈fp,∀ o,h.get? b=some o->h'.get? b=some o)->tn i h'
 item:∀ (X:Cx),X.prog=P->X.w=w->X.K=K->X.calm=true->∀ (i:Nat) (pins:List (Addr×Obj)) (s:Shared) (σ:St) (H:Hp) (E:Value->Shared->Prop),Inv X pins σ H s->(∀ b∈fp,qcQ X pins H b)->tn i s.heap->J.go i H ->
  wpAny (model P w) X.A (pyNext (.ref it)) (fun r s1=>∃ u,r=some u /\
   wpAny (model P w) X.A (letOwnedTupleGo tg (.ref it) u) (fun _ s2=>∃ x H',Inv X pins σ H' s2/\RelV x u/\J.yld i H x H'/\tn (i + 1) s2.heap/\∀ b∈fp,H' b=none) E s1) E s
 done:∀ (X:Cx),X.prog=P->X.w=w->X.K=K->X.calm=true->∀ (i:Nat) (pins:List (Addr×Obj)) (s:Shared) (σ:St) (H:Hp) (E:Value->Shared->Prop),Inv X pins σ H s->(∀ b∈fp,qcQ X pins H b)->tn i s.heap->J.stop i H ->
  wpAny (model P w) X.A (pyNext (.ref it)) (fun r s1=>r=none/\Inv X pins σ H s1) E s
 self:∀ (A:Around) (i:Nat) (s:Shared) (Q:Value->Shared->Prop) (E:Value->Shared->Prop),tn i s.heap->Q (.ref it) s->wpAny (model P w) A (pyIter (.ref it)) Q E s
noncomputable abbrev TI:=St->Hp->(It->Hp->Prop)->Prop
noncomputable def PIE (X:Cx) (pins:List (Addr×Obj)) (σ:St) (tg:Expr) (R:It->Hp->Prop) (itv:Value) (s2:Shared):Prop:=
 ∃ (it:Addr) (fp:List Addr) (tn:Nat->Heap->Prop) (J:It) (H':Hp),itv=.ref it/\Inv X pins σ H' s2/\Turn X.prog X.w X.K tg J fp it tn/\tn 0 s2.heap/\(∀ b∈fp,qcQ X pins H' b)/\R J H'
noncomputable def PI (X:Cx) (tg iter:Expr) (wi:TI):Prop:=
 ∀ (pins:List (Addr×Obj)) (s:Shared) (σ:St) (H:Hp) (R:It->Hp->Prop),Inv X pins σ H s->wi σ H R ->
  wpAny (model X.prog X.w) X.A (eval iter X.env) (fun v s1=>wpAny (model X.prog X.w) X.A (pyIter v) (PIE X pins σ tg R) X.xe s1) X.xe s
theorem qe0 {o:Obj} {n:String} {vs:Array Value} {Q:Unit->Shared->Prop} (ho:s.heap.get? it=some o) (hc:o.cls=.type n) (hd:o.data=.fields vs)
    (hn:["enumerate","zip","dict_itemiterator","dict_reverseitemiterator","odict_iterator","itertools.zip_longest","itertools.pairwise"].contains n=false) (hQ:Q () s):wpAny M A (letOwnedTupleGo tg (.ref it) u) Q E s:=by
  unfold letOwnedTupleGo;cases tg<;>first
    | exact yx hQ
    | (cases u<;>first
        | exact yx hQ
        | (refine yr (wpAny_load ho ?_)
           rw [hc,hd];show wpAny M A (if (["enumerate","zip","dict_itemiterator","dict_reverseitemiterator","odict_iterator","itertools.zip_longest","itertools.pairwise"].contains n&&vs[0]?==some (rawInt _))=true then _ else _) Q E s;rw [yC (by intro h;rw [hn,Bool.false_and] at h;cases h)];exact yx hQ))
noncomputable def Itl (K:yg) (a:Addr):It:=
 ⟨fun i H=>∃ xs x,SqL K H a xs/\xs[i]?=some x,fun i H x H'=>H'=H/\∀ xs,SqL K H a xs->xs[i]?=some x,fun i H=>∃ xs,SqL K H a xs/\xs.length<=i⟩
noncomputable def Itt (K:yg) (a:Addr):It:=
 ⟨fun i H=>∃ xs x,SqT K H a xs/\xs[i]?=some x,fun i H x H'=>H'=H/\∀ xs,SqT K H a xs->xs[i]?=some x,fun i H=>∃ xs,SqT K H a xs/\xs.length<=i⟩
noncomputable def Itr (lo:Int) (n:Nat):It:=⟨fun i _=>i < n,fun i H x H'=>H'=H/\x=.int (lo + i),fun i _=>n<=i⟩
theorem qck {K:yg} (a it:Addr):Turn P w K tg (Itl K a) [it] it (fun i h=>h.IsListIter it a i) where
 mem:=by simp
 obj:=fun i h st b hb=>by
  have e:b=it:=by simpa using hb
  subst e;obtain ⟨o,e,c,d⟩:=st;exact ⟨o,e,fun v z=>by rw [d] at z;cases z⟩
 keep:=fun i h h' st k=>st.at fun o e=>k it (by simp) o e
 item:=by
  intro X hP hw hK hc i pins s σ H E I hf st hg;subst hP hw hK;obtain ⟨xs,x,hq,hx⟩:=hg;obtain ⟨its,rv,p,hz⟩:=I.list hq;obtain ⟨u,hu,ru⟩:=rv.get hx;obtain ⟨f0,f1,f2,f3,f4,f5⟩:=hf it (by simp);refine wpAny_pyNext_list_item st p.isList (x:=u) (by simpa using hu) fun h' st' sb=>?_;have I1:Inv X pins σ H { s with heap:=h' }:=I.turned (t':=s.toks) (fun b o hb e=>(sb.2 b hb).trans e) f0 f1 f3 f4 f5;obtain ⟨o,e,c,d⟩:=id st';exact ⟨u,rfl,qe0 (s:={ s with heap:=h' }) e c d (by decide) ⟨x,H,I1,ru,⟨rfl,fun ys hy=>by rw [I.list_inj hy hq];exact hx⟩,st',fun b hb=>(hf b hb).1⟩⟩
 done:=by
  intro X hP hw hK hc i pins s σ H E I hf st hg;subst hP hw hK;obtain ⟨xs,hq,hx⟩:=hg;obtain ⟨its,rv,p,hz⟩:=I.list hq;obtain ⟨f0,f1,f2,f3,f4,f5⟩:=hf it (by simp);have hl:=rv.length;exact wpAny_pyNext_list_end (I.ok.hd hc) st p.isList (by simp;omega) fun h' eb=>⟨rfl,I.turned (t':=s.toks) (fun b o hb e=>eb b o hb e) f0 f1 f3 f4 f5⟩
 self:=fun _ _ _ _ _ st h=>wpAny_pyIter_listiter st h
theorem turn_tuple {K:yg} (a it:Addr):Turn P w K tg (Itt K a) [it] it (fun i h=>h.IsTupleIter it a i) where
 mem:=by simp
 obj:=fun i h st b hb=>by
  have e:b=it:=by simpa using hb
  subst e;obtain ⟨o,e,c,d⟩:=st;exact ⟨o,e,fun v z=>by rw [d] at z;cases z⟩
 keep:=fun i h h' st k=>st.at fun o e=>k it (by simp) o e
 item:=by
  intro X hP hw hK hc i pins s σ H E I hf st hg;subst hP hw hK;obtain ⟨xs,x,hq,hx⟩:=hg;obtain ⟨its,rv,p,hz⟩:=I.tuple hq;obtain ⟨u,hu,ru⟩:=rv.get hx;obtain ⟨f0,f1,f2,f3,f4,f5⟩:=hf it (by simp);refine wpAny_pyNext_tuple_item st (show s.heap.IsTuple a its.toArray from p) (x:=u) (by simpa using hu) fun h' st' sb=>?_;have I1:Inv X pins σ H { s with heap:=h' }:=I.turned (t':=s.toks) (fun b o hb e=>(sb.2 b hb).trans e) f0 f1 f3 f4 f5;obtain ⟨o,e,c,d⟩:=id st';exact ⟨u,rfl,qe0 (s:={ s with heap:=h' }) e c d (by decide) ⟨x,H,I1,ru,⟨rfl,fun ys hy=>by rw [I.tuple_inj hy hq];exact hx⟩,st',fun b hb=>(hf b hb).1⟩⟩
 done:=by
  intro X hP hw hK hc i pins s σ H E I hf st hg;subst hP hw hK;obtain ⟨xs,hq,hx⟩:=hg;obtain ⟨its,rv,p,hz⟩:=I.tuple hq;obtain ⟨f0,f1,f2,f3,f4,f5⟩:=hf it (by simp);have hl:=rv.length;exact wpAny_pyNext_tuple_end (I.ok.hd hc) st (show s.heap.IsTuple a its.toArray from p) (by simp;omega) fun h' eb=>⟨rfl,I.turned (t':=s.toks) (fun b o hb e=>eb b o hb e) f0 f1 f3 f4 f5⟩
 self:=fun _ _ _ _ _ st h=>wpAny_pyIter_tupleiter st h
theorem turn_range {K:yg} (it:Addr) (lo:Int) (n:Nat):Turn P w K tg (Itr lo n) [it] it (fun i h=>IsRangeIter h it (lo + (i:Nat) * 1) ((n:Int) - (i:Nat)) 1) where
 mem:=by simp
 obj:=fun i h st b hb=>by
  have e:b=it:=by simpa using hb
  subst e
  exact ⟨_,st,fun v z=>by
   have z':Data.fields _=Data.cell v:=z;cases z'⟩
 keep:=fun i h h' st k=>k it (by simp) _ st
 item:=by
  intro X hP hw hK hc i pins s σ H E I hf st hg;subst hP hw hK;obtain ⟨f0,f1,f2,f3,f4,f5⟩:=hf it (by simp);have W:=Walks.range (prog:=X.prog) (w:=X.w) (I.ok.hd hc) it lo 1 n;refine W.item i s _ _ hg st fun v h' tk hv st' kk=>?_;obtain ⟨t,rfl⟩:=hv;have I1:Inv X pins σ H { s with heap:=h',toks:=tk }:=I.turned (fun b o hb e=>kk b o (by simpa using hb) e) f0 f1 f3 f4 f5;refine ⟨_,rfl,qe0 (s:={ s with heap:=h',toks:=tk }) (n:="range_iterator") st' rfl rfl (by decide) ⟨.int (lo + i),H,I1,⟨t,?_⟩,⟨rfl,rfl⟩,st',fun b hb=>(hf b hb).1⟩⟩;rw [Int.mul_one]
 done:=by
  intro X hP hw hK hc i pins s σ H E I hf st hg;subst hP hw hK;obtain ⟨f0,f1,f2,f3,f4,f5⟩:=hf it (by simp);exact wpAny_pyNext_range_end (I.ok.hd hc) st (by have:n<=i:=hg;omega) fun h' eb=>⟨rfl,I.turned (t':=s.toks) (fun b o hb e=>eb b o hb e) f0 f1 f3 f4 f5⟩
 self:=fun _ _ _ _ _ st h=>wpAny_pyIter_rangeiter st h
section
variable {X:Cx} {tg:Expr}
theorem qdm {R:It->Hp->Prop} {hi:Int} {t u v:Tok} {tk:Nat} (I:Inv X pins σ H s) (h1:-(2 ^ 62)<=lo) (h2:lo < 2 ^ 62) (h3:-(2 ^ 62)<=hi) (h4:hi < 2 ^ 62)
  (q:R (Itr lo (hi - lo).toNat) H):wpAny (model X.prog X.w) X.A (pyIter (.ref s.heap.objs.size)) (PIE X pins σ tg R) E { s with heap:=s.heap.push { cls:=.type "range",data:=.fields #[.int lo t,.int hi u,.int 1 v] },toks:=tk }:=by
 refine wpAny_pyIter_range (IsRange.new ..) (small_one h1 h2 h3 h4) ?_;have I1:Inv X pins σ H { s with heap:=s.heap.push { cls:=.type "range",data:=.fields #[.int lo t,.int hi u,.int 1 v] },toks:=tk }:=I.kept fun b o e=>yw _ e;refine ⟨(s.heap.push { cls:=.type "range",data:=.fields #[.int lo t,.int hi u,.int 1 v] }).objs.size,[(s.heap.push { cls:=.type "range",data:=.fields #[.int lo t,.int hi u,.int 1 v] }).objs.size],_,_,H,rfl,
  I1.kept (t':=tk) fun b o e=>yw _ e,turn_range _ lo (hi - lo).toNat,?_,fun b hb=>?_,q⟩
 ·have e1:lo + ((0:Nat):Int) * 1=lo:=by simp
  have e2:(((hi - lo).toNat:Nat):Int) - ((0:Nat):Int)=Builtin.Range.rangeSize lo hi 1:=by rw [rangeSize_one];split<;>omega
  show IsRangeIter _ _ (lo + ((0:Nat):Int) * 1) ((((hi - lo).toNat:Nat):Int) - ((0:Nat):Int)) 1;rw [e1,e2];exact yU _ rfl
 ·have e:b=(s.heap.push { cls:=.type "range",data:=.fields #[.int lo t,.int hi u,.int 1 v] }).objs.size:=by simpa using hb
  subst e;exact I1.fpOk (yh _) (I1.hok.fresh (yh _))
noncomputable def qfq (ta:TA):TI:=fun σ H R=>ta σ H fun vs H1=>∃ j:Int,vs=[.int j]/\-(2 ^ 62)<=j/\j < 2 ^ 62/\R (Itr 0 j.toNat) H1
noncomputable def qfr (ta:TA):TI:=fun σ H R=>ta σ H fun vs H1=>∃ i j:Int,vs=[.int i,.int j]/\(-(2 ^ 62)<=i/\i < 2 ^ 62/\-(2 ^ 62)<=j/\j < 2 ^ 62)/\R (Itr i (j - i).toNat) H1
theorem js {a:Expr} (hg:Gl X "range") (hm:X.mg "range"=none) (ha:PA X [a] ta) (hs:starEach [a] X.env=[(false,eval a X.env)]:=by rfl):PI X tg (.Call (.Name "range" p) [a] [] pos) (qfq ta):=by
 intro pins s σ H R I h;refine Call_ (qaw I hg hm boot_range (Yz (thn (ha pos pins s σ H _ I h) fun us s1 ⟨vs,H1,I1,r1,q1⟩=>?_) hs rfl));obtain ⟨j,e,q1,q2,q⟩:=q1;subst e
 cases r1 with
 | cons r rr =>
  cases rr;obtain ⟨t,rfl⟩:=r;exact call_range_1 (qdm I1 (by omega) (by omega) q1 q2 (by simpa using q))
theorem pi_range2 {a b:Expr} (hg:Gl X "range") (hm:X.mg "range"=none) (ha:PA X [a,b] ta) (hs:starEach [a,b] X.env=[(false,eval a X.env),(false,eval b X.env)]:=by rfl) (hs2:starEach [b] X.env=[(false,eval b X.env)]:=by rfl) :
  PI X tg (.Call (.Name "range" p) [a,b] [] pos) (qfr ta):=by
 intro pins s σ H R I h;refine Call_ (qaw I hg hm boot_range (Yz (thn (ha pos pins s σ H _ I h) fun us s1 ⟨vs,H1,I1,r1,q1⟩=>?_) (by rw [hs,hs2]) (by rw [hs2];rfl)));obtain ⟨i,j,e,⟨q1,q2,q3,q4⟩,q⟩:=q1;subst e
 cases r1 with
 | cons r rr =>
  cases rr with
  | cons r' rr =>
   cases rr;obtain ⟨t,rfl⟩:=r;obtain ⟨t',rfl⟩:=r';exact call_range_2 (qdm I1 q1 q2 q3 q4 q)
noncomputable def qga (wi:TI) (g:TG) (tb:TS):TS:=fun D σ H=>wi σ H fun J H1=>∃ W:Nat->Nat->St->Hp->Prop,(∃ m,W 0 m σ H1)/\∀ i m σ H,W i m σ H ->
 (J.stop i H/\D.nx σ H)\/(J.go i H/\∃ N:St->Hp->Prop,(∀ σ' H',N σ' H'->∃ m',m' < m/\W (i + 1) m' σ' H')/\∀ x H',J.yld i H x H'->g x σ H' fun σ2 H2=>tb { D with nx:=N,ct:=N,bk:=D.nx } σ2 H2)
noncomputable def qcl (fp:List Addr) (h:Heap):List (Addr×Obj):=fp.filterMap fun b=>(h.get? b).map fun o=>(b,o)
theorem qaa {o:Obj} (hb:b∈fp) (e:h.get? b=some o):(b,o)∈qcl fp h:=List.mem_filterMap.mpr ⟨b,hb,by rw [e];rfl⟩
theorem of_pinsAt {p:Addr×Obj} (hp:p∈qcl fp h):p.1∈fp/\h.get? p.1=some p.2:=by
 obtain ⟨b,hb,e⟩:=List.mem_filterMap.mp hp
 cases q:h.get? b with
 | none=>rw [q] at e;cases e
 | some o =>
  rw [q] at e;have e':(b,o)=p:=ym e;subst e';exact ⟨hb,q⟩
theorem Inv.pinned (I:Inv X pins σ H s) (hf:∀ b∈fp,qcQ X pins H b) (ho:∀ b∈fp,∃ o,s.heap.get? b=some o/\∀ v,o.data≠.cell v):Inv X (pins++qcl fp s.heap) σ H s:=
 I.pins_of fun p hp=>(yz.mp hp).elim (fun z=>I.pin p (yO _ z)) fun z=>by
  obtain ⟨hb,e⟩:=of_pinsAt z;obtain ⟨f0,f1,f2,_⟩:=hf p.1 hb;obtain ⟨o,e',d⟩:=ho p.1 hb;rw [e] at e';cases e';exact ⟨e,f0,f1,f2,d⟩
theorem Inv.unpinned {pl:List (Addr×Obj)} (I:Inv X (pins++pl) σ H s):Inv X pins σ H s:=I.pins_of fun p hp=>I.pin p (yO _ (yP _ hp))
theorem ji {iter:Expr} {wi:TI} (hp:PassesOwn (model X.prog X.w) X.A X.env X.xe) (hc:X.calm=true) (hi:PI X tg iter wi) (hg:PG X tg g) (hb:PSs X body tb)
  (hs:∀ x,foldedSetIterable iter X.env x=pure x:=by intro _;rfl):PS X (.For tg iter body [] pos) (qga wi g tb):=by
 intro pins s σ H D I h;refine wpAny_For (thn (hi pins s σ H _ I h) fun v s1 h1=>thn h1 fun itv s2 h2=>?_) hs;obtain ⟨it,fp,tn,J,H2,e,I2,T,st2,f2,W,⟨m0,w0⟩,turn⟩:=h2;subst e;have stat:∀ {H':Hp},(∀ b∈fp,H' b=none)->∀ b∈fp,qcQ X pins H' b:=fun hn b hb=>⟨hn b hb,(f2 b hb).2⟩;refine codeAny_forLoop_any (fun n s'=>∃ i σ' H',Inv X pins σ' H' s'/\tn i s'.heap/\(∀ b∈fp,H' b=none)/\W i n σ' H') ?_ m0 ⟨0,σ,H2,I2,st2,fun b hb=>(f2 b hb).1,w0⟩;rintro n s3 ⟨i,σ3,H3,I3,st3,fr3,w3⟩;rcases turn i n σ3 H3 w3 with ⟨stop,qn⟩ | ⟨go,N,hN,step⟩
 ·refine xw hp (thn (T.done X rfl rfl rfl hc i pins s3 σ3 H3 X.xe I3 (stat fr3) st3 stop) fun r s4 ⟨hr,I4⟩=>?_);subst hr;exact XW ⟨σ3,H3,I4,qn⟩
 ·refine xw hp (thn (T.item X rfl rfl rfl hc i pins s3 σ3 H3 X.xe I3 (stat fr3) st3 go) fun r s4 ⟨u,hr,h4⟩=>?_);subst hr;refine xw hp (thn h4 fun _ s5 ⟨x,H5,I5,r5,y5,st5,fr5⟩=>?_);have I5':=I5.pinned (stat fr5) (T.obj _ _ st5);refine xw hp (thn (hg _ s5 σ3 H5 x u _ I5' r5 (step x H5 y5)) fun _ s6 ⟨σ6,H6,I6,q6⟩=>?_);refine xw hp (thn (hb _ s6 σ6 H6 _ I6 q6) fun f s7 q7=>?_)
  have again:∀ {σ7:St} {H7:Hp},Inv X (pins++qcl fp s5.heap) σ7 H7 s7->N σ7 H7->∃ m,m < n/\∃ i σ' H',Inv X pins σ' H' s7/\tn i s7.heap/\(∀ b∈fp,H' b=none)/\W i m σ' H':=fun {σ7 H7} I7 n7=>by
   obtain ⟨m',hm,w7⟩:=hN σ7 H7 n7;refine ⟨m',hm,i + 1,σ7,H7,I7.unpinned,T.keep _ _ _ st5 fun b hb o e=>(I7.pin (b,o) (yO _ (yO _ (qaa hb e)))).1,fun b hb=>?_,w7⟩;obtain ⟨o,e,d⟩:=T.obj _ _ st5 b hb;exact (I7.pin (b,o) (yO _ (yO _ (qaa hb e)))).2.1
  cases f with
  | next=>obtain ⟨σ7,H7,I7,n7⟩:=q7;exact again I7 n7
  | cont=>obtain ⟨σ7,H7,I7,n7⟩:=q7;exact again I7 n7
  | brk=>obtain ⟨σ7,H7,I7,q7⟩:=q7;exact ⟨σ7,H7,I7.unpinned,q7⟩
  | ret v=>obtain ⟨x7,σ7,H7,I7,r7,q7⟩:=q7;exact ⟨x7,σ7,H7,I7.unpinned,r7,q7⟩
end
theorem qV {K:yg} (Pv:Nat->St->Hp->Prop) (h0:Pv 0 σ H) (hl:∀ i σ H,i<=xs.length->Pv i σ H->SqL K H a xs)
  (hs:∀ i x σ H,xs[i]?=some x->Pv i σ H->g x σ H fun σ2 H2=>tb { D with nx:=Pv (i + 1),ct:=Pv (i + 1),bk:=D.nx } σ2 H2) (hd:∀ σ H,Pv xs.length σ H->D.nx σ H) :
  ∃ W:Nat->Nat->St->Hp->Prop,(∃ m,W 0 m σ H)/\∀ i m σ H,W i m σ H ->
   ((Itl K a).stop i H/\D.nx σ H)\/((Itl K a).go i H/\∃ N:St->Hp->Prop,(∀ σ' H',N σ' H'->∃ m',m' < m/\W (i + 1) m' σ' H')/\∀ x H',(Itl K a).yld i H x H'->g x σ H' fun σ2 H2=>tb { D with nx:=N,ct:=N,bk:=D.nx } σ2 H2):=by
 refine ⟨fun i m σ H=>m=xs.length - i/\i<=xs.length/\Pv i σ H,⟨xs.length,by simp,YK _,h0⟩,?_⟩;rintro i m σ H ⟨rfl,hi,p⟩;have q:=hl i σ H hi p;by_cases hlt:i < xs.length
 ·refine .inr ⟨⟨xs,xs[i],q,by simp [hlt]⟩,Pv (i + 1),fun σ' H' p'=>⟨xs.length - (i + 1),by omega,rfl,hlt,p'⟩,fun x H' y=>?_⟩;obtain ⟨e,y⟩:=y;subst e;exact hs i x σ _ (y xs q) p
 ·have e:i=xs.length:=by omega
  subst e;exact .inl ⟨⟨xs,q,yh _⟩,hd σ H p⟩
theorem zw (Pv:Nat->St->Hp->Prop) (h0:Pv 0 σ H)
  (hs:∀ i σ H,i < n->Pv i σ H->g (.int (lo + i)) σ H fun σ2 H2=>tb { D with nx:=Pv (i + 1),ct:=Pv (i + 1),bk:=D.nx } σ2 H2) (hd:∀ σ H,Pv n σ H->D.nx σ H) :
  ∃ W:Nat->Nat->St->Hp->Prop,(∃ m,W 0 m σ H)/\∀ i m σ H,W i m σ H ->
   ((Itr lo n).stop i H/\D.nx σ H)\/((Itr lo n).go i H/\∃ N:St->Hp->Prop,(∀ σ' H',N σ' H'->∃ m',m' < m/\W (i + 1) m' σ' H')/\∀ x H',(Itr lo n).yld i H x H'->g x σ H' fun σ2 H2=>tb { D with nx:=N,ct:=N,bk:=D.nx } σ2 H2):=by
 refine ⟨fun i m σ H=>m=n - i/\i<=n/\Pv i σ H,⟨n,by simp,YK _,h0⟩,?_⟩;rintro i m σ H ⟨rfl,hi,p⟩;by_cases hlt:i < n
 ·refine .inr ⟨hlt,Pv (i + 1),fun σ' H' p'=>⟨n - (i + 1),by omega,rfl,hlt,p'⟩,fun x H' y=>?_⟩;obtain ⟨e,y⟩:=y;subst e y;exact hs i σ _ hlt p
 ·have e:i=n:=by omega
  subst e;exact .inl ⟨yh _,hd σ H p⟩
noncomputable abbrev R2:=V->V->Hp->VK->Prop
noncomputable def OpR (X:Cx) (f:Value->Value->Sem Value) (r:R2):Prop:=
 ∀ (pins:List (Addr×Obj)) (s:Shared) (σ:St) (H:Hp) (x y:V) (v u:Value) (Q:VK),Inv X pins σ H s->RelV x v->RelV y u->r x y H Q ->
  wpAny (model X.prog X.w) X.A (f v u) (EP X pins σ Q) X.xe s
noncomputable def UnR (X:Cx) (f:Value->Sem Value) (r:V->Hp->VK->Prop):Prop:=
 ∀ (pins:List (Addr×Obj)) (s:Shared) (σ:St) (H:Hp) (x:V) (v:Value) (Q:VK),Inv X pins σ H s->RelV x v->r x H Q ->
  wpAny (model X.prog X.w) X.A (f v) (EP X pins σ Q) X.xe s
noncomputable def zL (X:Cx) (f:Value) (r:List V->Hp->VK->Prop):Prop:=
 ∀ (pins:List (Addr×Obj)) (s:Shared) (σ:St) (H:Hp) (xs:List V) (us:List Value) (Q:VK),Inv X pins σ H s->Vals xs us->r xs H Q ->
  wpAny (model X.prog X.w) X.A (call f us) (EP X pins σ Q) X.xe s
noncomputable def tOp (r:R2) (ta tb:TE):TE:=fun σ H Q=>ta σ H fun x H1=>tb σ H1 fun y H2=>r x y H2 Q
noncomputable def tUn (r:V->Hp->VK->Prop) (ta:TE):TE:=fun σ H Q=>ta σ H fun x H1=>r x H1 Q
inductive rI (C:Int->Int->Prop) (g:Int->Int->V) (x:V) (y:V) (H:Hp) (Q:VK):Prop|mk (i j:_) (_:x=.int i) (_:y=.int j) (_:C i j) (_:Q (g i j) H)
inductive rI0 (g:Int->Int->V) (x:V) (y:V) (H:Hp) (Q:VK):Prop|mk (i j:_) (_:x=.int i) (_:y=.int j) (_:Q (g i j) H)
inductive rU (g:Int->V) (x:V) (H:Hp) (Q:VK):Prop|mk (i:_) (_:x=.int i) (_:Q (g i) H)
section
variable {X:Cx} {a b c:Expr} {ta tb tc:TE} {pos:Pos}
theorem qfS (ha:PE X a ta) (hb:PE X b tb) {R:V->V->Hp->Prop} (I:Inv X pins σ H s)
  (h:ta σ H fun x H1=>tb σ H1 fun y H2=>R x y H2) {Q:Value->Shared->Prop}
  (hf:∀ v u s2 x y H2,Inv X pins σ H2 s2->RelV x v->RelV y u->R x y H2->wpAny (model X.prog X.w) X.A (f v u) Q X.xe s2) :
  wpAny (model X.prog X.w) X.A (eval a X.env) (fun v s₁=>wpAny (model X.prog X.w) X.A (eval b X.env) (fun u s₂=>wpAny (model X.prog X.w) X.A (f v u) Q X.xe s₂) X.xe s₁) X.xe s:=by
 refine thn (ha pins s σ H _ I h) fun v s1 ⟨x,H1,I1,r1,q1⟩=>?_;refine thn (hb pins s1 σ H1 _ I1 q1) fun u s2 ⟨y,H2,I2,r2,q2⟩=>?_;exact hf v u s2 x y H2 I2 r1 r2 q2
theorem qx {op:Operator} (ho:OpR X (binaryOp op) r) (ha:PE X a ta) (hb:PE X b tb):PE X (.BinOp a op b pos) (tOp r ta tb):=by
 intro pins s σ H Q I h;exact wpAny_BinOp (qfS ha hb I h fun v u s2 x y H2 I2 rx ry q=>ho pins s2 σ H2 x y v u Q I2 rx ry q)
theorem qbk {op:UnaryOp} {r:V->Hp->VK->Prop} (ho:UnR X (unaryOp op) r) (ha:PE X a ta):PE X (.UnaryOp op a pos) (tUn r ta):=by
 intro pins s σ H Q I h;exact UnaryOp_ (thn (ha pins s σ H _ I h) fun v s1 ⟨x,H1,I1,r1,q1⟩=>ho pins s1 σ H1 x v Q I1 r1 q1)
theorem opI {C:Int->Int->Prop} {g:Int->Int->Int}
  (rule:∀ (i j:Int) (t u:Tok) (s:Shared) (Q:Value->Shared->Prop) (E:Value->Shared->Prop),C i j->Q (.int (g i j) s.toks) { s with toks:=s.toks + 1 }->wpAny (model X.prog X.w) X.A (f (.int i t) (.int j u)) Q E s) :
  OpR X f (rI C fun i j=>.int (g i j)):=by
 intro pins s σ H x y v u Q I rx ry h;obtain ⟨i,j,rfl,rfl,hc,q⟩:=h;obtain ⟨t,rfl⟩:=rx;obtain ⟨t',rfl⟩:=ry;exact rule i j t t' s _ _ hc ⟨.int (g i j),H,I.tok _,⟨_,rfl⟩,q⟩
theorem qfL {g:Int->Int->Int}
  (rule:∀ (i j:Int) (t u:Tok) (s:Shared) (Q:Value->Shared->Prop) (E:Value->Shared->Prop),Q (.int (g i j) s.toks) { s with toks:=s.toks + 1 }->wpAny (model X.prog X.w) X.A (f (.int i t) (.int j u)) Q E s) :
  OpR X f (rI0 fun i j=>.int (g i j)):=by
 intro pins s σ H x y v u Q I rx ry h;obtain ⟨i,j,rfl,rfl,q⟩:=h;obtain ⟨t,rfl⟩:=rx;obtain ⟨t',rfl⟩:=ry;exact rule i j t t' s _ _ ⟨.int (g i j),H,I.tok _,⟨_,rfl⟩,q⟩
theorem qfT {g:Int->Int->Bool}
  (rule:∀ (i j:Int) (t u:Tok) (s:Shared) (Q:Value->Shared->Prop) (E:Value->Shared->Prop),Q (.bool (g i j)) s->wpAny (model X.prog X.w) X.A (f (.int i t) (.int j u)) Q E s) :
  OpR X f (rI0 fun i j=>.bl (g i j)):=by
 intro pins s σ H x y v u Q I rx ry h;obtain ⟨i,j,rfl,rfl,q⟩:=h;obtain ⟨t,rfl⟩:=rx;obtain ⟨t',rfl⟩:=ry;exact rule i j t t' s _ _ ⟨.bl (g i j),H,I,rfl,q⟩
noncomputable def CDiv (i j:Int):Prop:=0 < j/\j < 1073741824
noncomputable def qgb (i j:Int):Prop:=0<=j/\j<=1000000/\i.natAbs < 2 ^ 64
noncomputable def CMul (i j:Int):Prop:=(-(2 ^ 64) < i/\i < 2 ^ 64)\/(-(2 ^ 64) < j/\j < 2 ^ 64)
theorem CMul.ok {i j:Int} (h:CMul i j):IntMulOk i j:=by
 rcases h with ⟨h1,h2⟩ | ⟨h1,h2⟩
 ·exact .of_left (intBits_le_64 h1 h2)
 ·exact .of_right (intBits_le_64 h1 h2)
theorem two_pow_nn (k:Nat):(0:Int)<=2 ^ k:=by
 rw [two_pow_cast];exact Int.natCast_nonneg _
theorem op_add:OpR X (binaryOp .Add) (rI0 fun i j=>.int (i + j)):=qfL fun _ _ _ _ _ _ _ q=>add_int q
theorem qbl:OpR X (binaryOp .Sub) (rI0 fun i j=>.int (i - j)):=qfL fun _ _ _ _ _ _ _ q=>sub_int q
theorem op_mul:OpR X (binaryOp .Mult) (rI CMul fun i j=>.int (i * j)):=opI fun _ _ _ _ _ _ _ hc q=>mul_int q hc.ok
theorem qcV:OpR X (binaryOp .FloorDiv) (rI CDiv fun i j=>.int (i / j)):=opI fun i j _ _ _ _ _ hc q=>by
 have h1:(0:Int) < j:=hc.1;have h2:j < 1073741824:=hc.2;exact floordiv_int (by omega) (by rw [Int.fdiv_eq_ediv_of_nonneg i (by omega)];exact q) (.inl (PyProof.noPylong_small (by omega)))
theorem ze:OpR X (binaryOp .Mod) (rI (fun _ j=>0 < j) fun i j=>.int (i % j)):=opI fun i j _ _ _ _ _ hc q=>by
 have h1:(0:Int) < j:=hc;exact mod_int' (by omega) (by rw [Int.fmod_eq_emod_of_nonneg i (by omega)];exact q)
theorem op_pow:OpR X (binaryOp .Pow) (rI qgb fun i j=>.int (i ^ j.toNat)):=opI fun _ _ _ _ _ _ _ hc q=>pow_int_small hc.1 hc.2.1 hc.2.2 q
theorem qbm:OpR X (binaryOp .LShift) (rI qgb fun i j=>.int (i * 2 ^ j.toNat)):=opI fun _ _ _ _ _ _ _ hc q=>lshift_int_small hc.1 hc.2.1 hc.2.2 q
theorem qdn:OpR X (binaryOp .RShift) (rI (fun _ j=>0<=j) fun i j=>.int (i / 2 ^ j.toNat)):=opI fun i j _ _ _ _ _ hc q =>
 rshift_int hc (by rw [Int.fdiv_eq_ediv_of_nonneg i (two_pow_nn _)];exact q)
theorem qbn:OpR X (binaryOp .BitAnd) (rI0 fun i j=>.int (Builtin.bitAnd i j)):=qfL fun _ _ _ _ _ _ _ q=>and_int q
theorem qcW:OpR X (binaryOp .BitOr) (rI0 fun i j=>.int (Builtin.bitOr i j)):=qfL fun _ _ _ _ _ _ _ q=>or_int q
theorem unI {f:Value->Sem Value} {g:Int->Int}
  (rule:∀ (i:Int) (t:Tok) (s:Shared) (Q:Value->Shared->Prop) (E:Value->Shared->Prop),Q (.int (g i) s.toks) { s with toks:=s.toks + 1 }->wpAny (model X.prog X.w) X.A (f (.int i t)) Q E s) :
  UnR X f (rU fun i=>.int (g i)):=by
 intro pins s σ H x v Q I rx h;obtain ⟨i,rfl,q⟩:=h;obtain ⟨t,rfl⟩:=rx;exact rule i t s _ _ ⟨.int (g i),H,I.tok _,⟨_,rfl⟩,q⟩
theorem qay:UnR X (unaryOp .USub) (rU fun i=>.int (-i)):=unI fun _ _ _ _ _ q=>neg_int q
theorem qeI:UnR X (unaryOp .Invert) (rU fun i=>.int (Builtin.bitNot i)):=unI fun _ _ _ _ _ q=>invert_int q
end
noncomputable def scal:V->V->Bool
 | .non,.non=>true | .non,.int _=>true | .int _,.non=>true | .non,.bl _=>true | .bl _,.non=>true | .non,.str _=>true | .str _,.non=>true
 | .int _,.int _=>true | .bl _,.bl _=>true | .str _,.str _=>true | .byt _,.byt _=>true
 | .int _,.str _=>true | .str _,.int _=>true | .bl _,.str _=>true | .str _,.bl _=>true
 | _,_=>false
noncomputable def rEq:R2:=fun x y H Q=>scal x y=true/\Q (.bl (decide (x=y))) H
theorem dec_bl {i j:Bool}:decide (V.bl i=V.bl j)=(i==j):=by
 rw [Yq];simp
section
variable {X:Cx} {a b c:Expr} {ta tb tc:TE} {pos:Pos}
theorem qdo {Q:VK} {k k':Bool} (I:Inv X pins σ H s) (q:Q (.bl k) H) (e:k=k'):EP X pins σ Q (.bool k') s:=by
 subst e;exact ⟨.bl k,H,I,rfl,q⟩
theorem qcX:OpR X (compareOp .Lt) (rI0 fun i j=>.bl (decide (i < j))):=qfT fun _ _ _ _ _ _ _ q=>lt_int q
theorem op_le:OpR X (compareOp .LtE) (rI0 fun i j=>.bl (decide (i<=j))):=qfT fun _ _ _ _ _ _ _ q=>le_int q
theorem qez:OpR X (compareOp .Gt) (rI0 fun i j=>.bl (decide (j < i))):=qfT fun _ _ _ _ _ _ _ q=>gt_int q
theorem op_isN:OpR X (compareOp .Is) (fun x y H Q=>y=.non/\Q (.bl (decide (x=.non))) H):=by
 intro pins s σ H x y v u Q I rx ry h;obtain ⟨rfl,q⟩:=h;cases ry;refine is_none_gen (qdo I q ?_);cases x<;>first
  | (cases rx;rfl)
  | (obtain ⟨t,rfl⟩:=rx;rfl)
theorem qcY:OpR X (compareOp .IsNot) (fun x y H Q=>y=.non/\Q (.bl (!decide (x=.non))) H):=by
 intro pins s σ H x y v u Q I rx ry h;obtain ⟨rfl,q⟩:=h;cases ry;refine isnot_none_gen (qdo I q ?_);cases x<;>first
  | (cases rx;rfl)
  | (obtain ⟨t,rfl⟩:=rx;rfl)
theorem qB (b:Expr) (h:op≠.In:=by decide) (h2:op≠.NotIn:=by decide):behindInMarks op b=false:=by
 have e1:(op==CmpOp.In)=false:=by cases op<;>first | rfl | exact absurd rfl h
 have e2:(op==CmpOp.NotIn)=false:=by cases op<;>first | rfl | exact absurd rfl h2
 cases b<;>simp [behindInMarks,e1,e2]
theorem jM (ho:OpR X (compareOp op) r) (ha:PE X a ta) (hb:PE X b tb) (hm:behindInMarks op b=false):PE X (.Compare a [op] [b] pos) (tOp r ta tb):=by
 intro pins s σ H Q I h;exact wpAny_Compare1 (qfS ha hb I h fun v u s2 x y H2 I2 rx ry q=>ho pins s2 σ H2 x y v u Q I2 rx ry q) hm
noncomputable def qe1 (t:TE):TT:=fun σ H Q=>t σ H fun x H'=>∃ k,x=.bl k/\Q k H'
theorem qo (ho:OpR X (compareOp op) r) (ha:PE X a ta) (hb:PE X b tb) (hm:behindInMarks op b=false):PT X (.Compare a [op] [b] pos) (qe1 (tOp r ta tb)):=by
 intro pins s σ H Q I h
 refine wpAny_isTrue_Compare1 (thn (ha pins s σ H _ I h) fun v s1 ⟨x,H1,I1,r1,q1⟩=>thn (hb pins s1 σ H1 _ I1 q1) fun u s2 ⟨y,H2,I2,r2,q2⟩ =>
  thn (ho pins s2 σ H2 x y v u _ I2 r1 r2 q2) fun c s3 ⟨z,H3,I3,r3,k,e,q3⟩=>?_) hm
 subst e;cases r3;exact YO ⟨H3,I3,q3⟩
noncomputable def qdV (r r':R2) (ta tb tc:TE):TE:=fun σ H Q=>ta σ H fun x H1=>tb σ H1 fun y H2=>r x y H2 fun z H3=>∃ k,z=.bl k /\
 (if k=true then tc σ H3 fun w' H4=>r' y w' H4 Q else Q (.bl false) H3)
theorem pe_chain (ho:OpR X (compareOp op) r) (ho':OpR X (compareOp op') r') (ha:PE X a ta) (hb:PE X b tb) (hc:PE X c tc)
  (hm:lastMarks [op,op'] [b,c]=false:=by with_unfolding_all rfl):PE X (.Compare a [op,op'] [b,c] pos) (qdV r r' ta tb tc):=by
 intro pins s σ H Q I h
 refine Compare_chain (thn (ha pins s σ H _ I h) fun v s1 ⟨x,H1,I1,r1,q1⟩=>chain_link (thn (hb pins s1 σ H1 _ I1 q1) fun u s2 ⟨y,H2,I2,r2,q2⟩ =>
  thn (ho pins s2 σ H2 x y v u _ I2 r1 r2 q2) fun d s3 ⟨z,H3,I3,r3,k,e,q3⟩=>?_)) hm
 subst e;cases r3;refine YO ?_
 cases k with
 | false=>exact ite_ff ⟨.bl false,H3,I3,rfl,q3⟩
 | true=>exact ite_tt (chain_last (thn (hc pins s3 σ H3 _ I3 q3) fun w' s4 ⟨z',H4,I4,r4,q4⟩=>ho' pins s4 σ H4 y z' u w' Q I4 r2 r4 q4))
theorem qdp (ho:OpR X (compareOp op) r) (ho':OpR X (compareOp op') r') (ha:PE X a ta) (hb:PE X b tb) (hc:PE X c tc)
  (hm:lastMarks [op,op'] [b,c]=false:=by with_unfolding_all rfl):PT X (.Compare a [op,op'] [b,c] pos) (qe1 (qdV r r' ta tb tc)):=by
 intro pins s σ H Q I h
 refine isTrue_chain (thn (ha pins s σ H _ I h) fun v s1 ⟨x,H1,I1,r1,q1⟩=>test_link (thn (hb pins s1 σ H1 _ I1 q1) fun u s2 ⟨y,H2,I2,r2,q2⟩ =>
  thn (ho pins s2 σ H2 x y v u _ I2 r1 r2 q2) fun d s3 ⟨z,H3,I3,r3,k,e,q3⟩=>?_)) hm
 subst e;cases r3;refine YO ?_
 cases k with
 | false =>
  obtain ⟨k',e',q'⟩:=q3;cases e';exact ite_ff ⟨H3,I3,q'⟩
 | true =>
  refine ite_tt (test_last (thn (hc pins s3 σ H3 _ I3 q3) fun w' s4 ⟨z',H4,I4,r4,q4⟩=>thn (ho' pins s4 σ H4 y z' u w' _ I4 r2 r4 q4) fun d' s5 ⟨z2,H5,I5,r5,k2,e2,q5⟩=>?_));subst e2;cases r5;exact YO ⟨H5,I5,q5⟩
theorem qbN:(sizeLine:Nat) < 2 ^ 63:=by rw [YC];decide
theorem op_add_str:OpR X (binaryOp .Add) (fun x y H Q=>∃ i j,x=.str i/\y=.str j/\i.length + j.length<=sizeLine/\Q (.str (i++j)) H):=by
 intro pins s σ H x y v u Q I rx ry h;obtain ⟨i,j,rfl,rfl,hz,q⟩:=h;obtain ⟨t,rfl⟩:=rx;obtain ⟨t',rfl⟩:=ry;exact add_str (fun t' tk=>⟨.str (i++j),H,I.tok _,⟨_,rfl⟩,q⟩) hz
theorem qbZ {x:V} (r:Vals [x] us):∃ u,us=[u]/\RelV x u:=by
 cases r with
 | cons r1 r2=>cases r2;exact ⟨_,rfl,r1⟩
theorem qeA {x:V} (r:Vals [x,y] us):∃ u w',us=[u,w']/\RelV x u/\RelV y w':=by
 cases r with
 | cons r1 r2 =>
  cases r2 with
  | cons r3 r4=>cases r4;exact ⟨_,_,rfl,r1,r3⟩
theorem qbo (hc:X.calm=true):zL X (.builtin "max") (fun xs H Q=>∃ i j,xs=[.int i,.int j]/\Q (.int (if j > i then j else i)) H):=by
 intro pins s σ H xs us Q I r h;obtain ⟨i,j,rfl,q⟩:=h;obtain ⟨u,w',rfl,⟨t,rfl⟩,⟨t',rfl⟩⟩:=qeA r;refine max_two_ints (I.ok.hd hc) fun h' tk k=>⟨_,H,I.kept k,?_,q⟩;by_cases hj:j > i
 ·rw [yF hj,yF hj];exact ⟨_,rfl⟩
 ·rw [yC hj,yC hj];exact ⟨_,rfl⟩
theorem call_min2 (hc:X.calm=true):zL X (.builtin "min") (fun xs H Q=>∃ i j,xs=[.int i,.int j]/\Q (.int (if j < i then j else i)) H):=by
 intro pins s σ H xs us Q I r h;obtain ⟨i,j,rfl,q⟩:=h;obtain ⟨u,w',rfl,⟨t,rfl⟩,⟨t',rfl⟩⟩:=qeA r;refine min_two_ints (I.ok.hd hc) fun h' tk k=>⟨_,H,I.kept k,?_,q⟩;by_cases hj:j < i
 ·rw [yF hj,yF hj];exact ⟨_,rfl⟩
 ·rw [yC hj,yC hj];exact ⟨_,rfl⟩
end
structure ObjM (h:Heap) (x dx C:Addr) (mA:Str->Option Value):Prop where
 obj:h.get? x=some (PySem.W.instObj C dx)
 ns:h.Ns1 dx mA
 ne:dx≠x
theorem qcm (n:h.Ns1 dx mA):∃ od,h.get? dx=some od/\∀ name,PySem.W.lookIn name od=some (mA name):=by
 obtain ⟨o,es,ep,ho,hd,hk,_,hm⟩:=n;refine ⟨o,ho,fun name=>?_⟩;have e:=hm name;unfold nsFind findBy at e;rw [<- Array.find?_toList] at e;unfold PySem.W.lookIn;rw [hd];dsimp only;split
 ·rename_i y q
  rw [q] at e;exact congrArg some e
 ·rename_i q
  rw [q] at e
  have a:es.toList.any (·.refKey)=false:=by
   rw [List.any_eq_false];intro y hy;obtain ⟨z,t,hkey⟩:=hk y (Array.mem_toList_iff.mp hy);simp [DictEntry.refKey,hkey]
  have a':¬ es.toList.any (·.refKey)=true:=by rw [a];exact Yl
  rw [yC a'];exact congrArg some e
theorem ObjM.look {x:Addr} (I:ObjM h x dx C mA):∃ od,PySem.W.InstAt h x (PySem.W.instObj C dx) C (some od)/\∀ name,PySem.W.lookIn name od=some (mA name):=
 let ⟨od,ho,hl⟩:=qcm I.ns
 ⟨od,⟨I.obj,rfl,rfl,ho⟩,hl⟩
section
variable {prog:Program} {w:World} {A:Around} {E:Value->Shared->Prop} {s:Shared} {K:yg} {x dx C f:Addr} {mA:Str->Option Value} {name:Str} {v:Value}
theorem get_map {expr:Bool} {Q:Value->Shared->Prop} (X:K.In s.heap) (I:ObjM s.heap x dx C mA) (hg:PySem.W.plainGet K C name=true) (hh:PySem.W.hasDictIn K C=true)
  (ha:PySem.W.findIn K (.ref C) name=some none) (hv:mA name=some v) (hv':PySem.W.handedIn v=true) (h:Q v { s with toks:=s.toks + 1 }) :
  wpAny (model prog w) A (getAttr (.ref x) name expr) Q E s:=by
 obtain ⟨od,J,hl⟩:=I.look;exact PySem.W.get_value X J (X6 hg).1 (PySem.W.findObj_own hh ha rfl (by rw [hl,hv])) hv' h
theorem get_meth {pl:Sem Bool} {Q:Value×List Value->Shared->Prop} (X:K.In s.heap) (I:ObjM s.heap x dx C mA) (hg:PySem.W.plainGet K C name=true)
  (hf:PySem.W.findIn K (.ref C) name=some (some (.ref f))) (ht:PySem.W.isFn K (.ref f)=true) (hv:mA name=none) (h:Q (.ref f,[.ref x]) s) :
  wpAny (model prog w) A (getMethod (.ref x) name pl) Q E s:=by
 obtain ⟨od,J,hl⟩:=I.look;exact PySem.W.method_fn X J (X6 hg).1 (X6 hg).2 hf (Yo.mp ht) (by show (PySem.W.lookIn name od).map (·.isSome)=some false;rw [hl,hv];rfl) h
theorem set_map {ns:List Str} {Q:Unit->Shared->Prop} (X:K.In s.heap) (I:ObjM s.heap x dx C mA)
  (hs:PySem.W.findIn K (.ref C) "__setattr__"=some (some (.builtin "object.__setattr__"))) (hp:PySem.W.plainOver K C=true) (ht:PySem.W.takerIn K C name=some none) (hh:PySem.W.hasDictIn K C=true)
  (hw:PySem.Within mA ns) (hsz:ns.length<=sizeLine)
  (h:∀ h',ObjM h' x dx C (fun y=>if y=name then some v else mA y)->Heap.SameBut dx s.heap h'->Q () { s with heap:=h',toks:=s.toks + 2 }) :
  wpAny (model prog w) A (setAttr (.ref x) name v) Q E s:=by
 obtain ⟨od,J,hl⟩:=I.look;refine PySem.W.set_plain X J hs (PySem.W.osa_open (s:={ s with toks:=s.toks + 1 }) (r:=none) X J hp ht fun b=>?_);obtain ⟨cd,hc,hd'⟩:=xM hh;have hx:s.heap.get? x=some ⟨.ref C,some dx,.plain,#[]⟩:=I.obj;refine yr (yx (yr (yr (wpAny_loadPart hx (yr (PySem.W.Looks.here (s:={ s with toks:=s.toks + 1 }) (X7 X hc) ?_))))));rw [hd'];refine yx (a:=some dx) (yr (yx (yr ?_)));refine wpAny_nsSet1 (s:={ s with toks:=s.toks + 1 }) I.ns fun h' hn2 hs2=>?_;obtain ⟨oD,esD,epD,hoD,hdD,hcD⟩:=hn2.count (PySem.Within.cons name v hw);refine yr (wpAny_lookBehind hoD (by rw [hdD];exact pastItsLine_dict (yi hcD (by rw [yA];omega))) ?_);exact yx (h _ ⟨(hs2.2 _ (Yn I.ne)).trans I.obj,hn2,I.ne⟩ hs2)
theorem make_map {R:Result->Shared->Prop} {vs:List Value} (X:K.In s.heap) (hm:PySem.W.makesIn K C=true)
  (hi:PySem.W.findIn K (.ref C) "__init__"=some (some (.ref f))) (hf:PySem.W.typeIn K (.ref f)=some (.type "function"))
  (h:codeAny (model prog w) (A.under (.builtin "type.__call__" ⟨.ref C::vs,kw⟩)) (.call (.ref f) ⟨.ref (s.heap.objs.size + 1)::vs,kw⟩) (PySem.W.InitBack (s.heap.objs.size + 1) R)
   { s with heap:=(s.heap.push PySem.W.emptyDict).push (PySem.W.instObj C s.heap.objs.size) }) :
  codeAny (model prog w) A (.call (.ref C) ⟨vs,kw⟩) R s:=by
 obtain ⟨hh,g,d,t,os⟩:=s;exact PySem.W.make_core (PySem.W.makes_of X hm) (Y4 X hi) (fun self=>PySem.W.bind_fn X self hf) (.inl rfl) h
end
noncomputable def qG (f:Str) (v:V):List (Str×V)->List (Str×V)
 | []=>[(f,v)]
 | (g,x)::r=>if g=f then (g,v)::r else (g,x)::qG f v r
theorem qC (f g:Str) (v:V):∀ fs:List (Str×V),(qG f v fs).lookup g=if g=f then some v else fs.lookup g
 | []=>by
  show List.lookup g [(f,v)]=_;by_cases h:g=f
  ·have hb:(g==f)=true:=Yo.mpr h;simp only [List.lookup,hb,yF h]
  ·have hb:(g==f)=false:=YJ.mpr h;simp only [List.lookup,hb,yC h]
 | (k,x)::r=>by
  have ih:=qC f g v r;rw [show qG f v ((k,x)::r)=(if k=f then (k,v)::r else (k,x)::qG f v r) from rfl];by_cases hk:k=f
  ·rw [yF hk];by_cases h:g=k
   ·have hb:(g==k)=true:=Yo.mpr h;simp only [List.lookup,hb,yF (h.trans hk)]
   ·have hb:(g==k)=false:=YJ.mpr h;simp only [List.lookup,hb,yC (fun e:g=f=>h (e.trans hk.symm))]
  ·rw [yC hk];by_cases h:g=k
   ·have hb:(g==k)=true:=Yo.mpr h;simp only [List.lookup,hb,yC (fun e:g=f=>hk (h.symm.trans e))]
   ·have hb:(g==k)=false:=YJ.mpr h;simp only [List.lookup,hb];exact ih
theorem qbp (f:Str) (v:V):∀ fs:List (Str×V),f∈(qG f v fs).map (·.1)/\∀ g,g∈fs.map (·.1)->g∈(qG f v fs).map (·.1)
 | []=>⟨by simp [qG],fun g h=>by simp at h⟩
 | (k,x)::r=>by
  obtain ⟨i1,i2⟩:=qbp f v r;rw [show qG f v ((k,x)::r)=(if k=f then (k,v)::r else (k,x)::qG f v r) from rfl];by_cases hk:k=f
  ·rw [yF hk];subst hk;exact ⟨by simp,fun g h=>by simpa using h⟩
  ·rw [yC hk];refine ⟨?_,fun g h=>?_⟩
   ·rw [Yy];exact yJ _ i1
   ·rw [Yy] at h ⊢;rcases yB.mp h with e | e
    ·exact yB.mpr (.inl e)
    ·exact yJ _ (i2 g e)
theorem jy (f:Str) (v:V):∀ fs:List (Str×V),(qG f v fs).length<=fs.length + 1
 | []=>by simp [qG]
 | (k,x)::r=>by
  have ih:=jy f v r;rw [show qG f v ((k,x)::r)=(if k=f then (k,v)::r else (k,x)::qG f v r) from rfl];by_cases hk:k=f
  ·rw [yF hk,yA,yA];omega
  ·rw [yC hk,yA,yA];omega
theorem RelO.some_of {o:Option Value} (r:RelO (some v) o):∃ u,o=some u/\RelV v u:=by
 cases o with
 | none=>exact (show False from r).elim
 | some u=>exact ⟨u,rfl,r⟩
theorem RelO.none_of {o:Option Value} (r:RelO none o):o=none:=by
 cases o with
 | none=>rfl
 | some u=>exact (show False from r).elim
theorem qcn (r:RelV v u):PySem.W.handedIn u=true:=by
 cases v with
 | non=>cases (show u=Value.none from r);rfl
 | bl b=>cases (show u=Value.bool b from r);rfl
 | int i=>obtain ⟨t,e⟩:=(show ∃ t,u=Value.int i t from r);cases e;rfl
 | str x=>obtain ⟨t,e⟩:=(show ∃ t,u=Value.str x t from r);cases e;rfl
 | byt b=>obtain ⟨t,e⟩:=(show ∃ t,u=Value.bytes b t from r);cases e;rfl
 | flt b=>obtain ⟨t,e⟩:=(show ∃ t,u=Value.float b t from r);cases e;rfl
 | ref a=>cases (show u=Value.ref a from r);rfl
 | ty n=>cases (show u=Value.type n from r);rfl
section
variable {P:Program} {w:World} {H H':Hp} {h h':Heap} {a C dx:Addr} {fs fs':List (Str×V)}
theorem qaU (hok:HOk P w H h) (e:H a=some (.ins C dx fs)):∃ mA,ObjM h a dx C mA/\(∀ f,RelO (fs.lookup f) (mA f))/\PySem.Within mA (fs.map (·.1))/\fs.length<=1000/\H dx=some (.own a):=by
 obtain ⟨d,z,ne,ob,mA,n,r,q⟩:=(show ObjOk P w H h a (.ins C dx fs) from hok a _ e);exact ⟨mA,⟨ob,n,ne⟩,r,q,z,d⟩
end
structure Cls (K:yg) (C:Addr):Prop where
 pg:PySem.W.plainGet K C Str.empty=true
 hd:PySem.W.hasDictIn K C=true
 po:PySem.W.plainOver K C=true
 sa:PySem.W.findIn K (.ref C) "__setattr__"=some (some (.builtin "object.__setattr__"))
theorem Cls.get {K:yg} (c:Cls K C) (f:Str):PySem.W.plainGet K C f=true:=c.pg
noncomputable def NoAttr (K:yg) (C:Addr) (f:Str):Prop:=PySem.W.findIn K (.ref C) f=some none
theorem NoAttr.taker {K:yg} {f:Str} (n:NoAttr K C f):PySem.W.takerIn K C f=some none:=by
 unfold PySem.W.takerIn;rw [show PySem.W.findIn K (.ref C) f=some none from n];rfl
structure Con (K:yg) (C:Addr) (f:Str) (v:V) (u:Value):Prop where
 at_:PySem.W.findIn K (.ref C) f=some (some u)
 rel:RelV v u
 get:PySem.W.specialIn K u "__get__"=some none
 cp:PySem.W.copiedNames.contains f=false
structure Meth (K:yg) (C:Addr) (m:Str) (f:Addr):Prop where
 at_:PySem.W.findIn K (.ref C) m=some (some (.ref f))
 fn:PySem.W.isFn K (.ref f)=true
 kp:PySem.W.keepIn K (.ref f)=true
section
variable {X:Cx} {pins:List (Addr×Obj)} {σ:St} {H:Hp} {s:Shared} {a C dx:Addr} {fs:List (Str×V)} {f:Str} {v:V} {A:Around} {E:Value->Shared->Prop}
theorem getattr_ok {b:Bool} {Q:Value->Shared->Prop} (I:Inv X pins σ H s) (e:H a=some (.ins C dx fs)) (c:Cls X.K C) (n:NoAttr X.K C f) (l:fs.lookup f=some v)
  (h:∀ u s',Inv X pins σ H s'->RelV v u->Q u s'):wpAny (model X.prog X.w) A (getAttr (.ref a) f b) Q E s:=by
 obtain ⟨mA,O,r,_,_,_⟩:=qaU I.hok e;obtain ⟨u,hu,ru⟩:=RelO.some_of (v:=v) (o:=mA f) (by rw [<- l];exact r f);exact get_map I.kIn O (c.get f) c.hd n hu (qcn ru) (h u _ (I.tok _) ru)
theorem qbO {m:Str} {g:Addr} {pl:Sem Bool} {Q:Value×List Value->Shared->Prop} (I:Inv X pins σ H s) (e:H a=some (.ins C dx fs)) (c:Cls X.K C) (k:Meth X.K C m g) (l:fs.lookup m=none)
  (h:Q (.ref g,[.ref a]) s):wpAny (model X.prog X.w) A (getMethod (.ref a) m pl) Q E s:=by
 obtain ⟨mA,O,r,_,_,_⟩:=qaU I.hok e;have hn:mA m=none:=RelO.none_of (by rw [<- l];exact r m);exact get_meth I.kIn O (c.get m) k.at_ k.fn hn h
theorem setattr_ok {Q:Unit->Shared->Prop} (I:Inv X pins σ H s) (e:H a=some (.ins C dx fs)) (c:Cls X.K C) (n:NoAttr X.K C f) (hl:fs.length < 1000) (ry:RelV y u)
  (h:∀ s',Inv X pins σ (upd H a (.ins C dx (qG f y fs))) s'->Q () s'):wpAny (model X.prog X.w) A (setAttr (.ref a) f u) Q E s:=by
 obtain ⟨mA,O,r,wi,_,ho⟩:=qaU I.hok e;have hz:(fs.map (·.1)).length<=sizeLine:=by rw [ya,YC];omega
 refine set_map I.kIn O c.sa c.po n.taker c.hd wi hz fun h' O' sb=>h _ ?_;have hd:∃ o,h'.get? dx=some o:=let ⟨o,_,_,e',_⟩:=O'.ns;⟨o,e'⟩;refine I.write (x:=a) (e:=dx) (by rw [e];exact YQ) (.inr ho) (fun b q hb z=>(sb.2 b hb).trans z) hd ?_;refine ⟨by rw [qf O.ne];exact ho,?_,O.ne,O'.obj,_,O'.ns,fun g=>?_,fun g hg=>?_⟩
 ·have:=jy f y fs;omega
 ·show RelO ((qG f y fs).lookup g) (if g=f then some u else mA g);rw [qC];by_cases q:g=f
  ·rw [yF q,yF q];exact ry
  ·rw [yC q,yC q];exact r g
 ·by_cases q:g=f
  ·rw [q];exact (qbp f y fs).1
  ·refine (qbp f y fs).2 g (wi g fun z=>hg ?_);show (if g=f then some u else mA g)=none;rw [yC q];exact z
theorem Inv.made (I:Inv X pins σ H s):Inv X pins σ (upd (upd H s.heap.objs.size (.own (s.heap.objs.size + 1))) (s.heap.objs.size + 1) (.ins C s.heap.objs.size []))
  { s with heap:=(s.heap.push PySem.W.emptyDict).push (PySem.W.instObj C s.heap.objs.size) }:=by
 have e1:(s.heap.push PySem.W.emptyDict).get? s.heap.objs.size=some PySem.W.emptyDict:=yU s.heap rfl
 have e2:((s.heap.push PySem.W.emptyDict).push (PySem.W.instObj C s.heap.objs.size)).get? (s.heap.objs.size + 1)=some (PySem.W.instObj C s.heap.objs.size):=by
  have:=yU (s.heap.push PySem.W.emptyDict) (o:=PySem.W.instObj C s.heap.objs.size) rfl
  rwa [xq] at this
 have e3:(s.heap.push PySem.W.emptyDict).Ns s.heap.objs.size (fun _=>none):=⟨PySem.W.emptyDict,#[],_,e1,rfl,(fun e he=>absurd he (by simp)),fun _=>rfl⟩;have I1:=I.laid (a:=s.heap.objs.size) (o:=.own (s.heap.objs.size + 1)) (h':=s.heap.push PySem.W.emptyDict) (t':=s.toks) (fun b u q=>yw _ q) (yh _) ⟨_,e1⟩;refine I1.laid (a:=s.heap.objs.size + 1) (o:=.ins C s.heap.objs.size []) (t':=s.toks) (fun b u q=>yw _ q) (X9 (xq _ _)) ?_;have ne:s.heap.objs.size≠s.heap.objs.size + 1:=yN (Xk _);refine ⟨by rw [qf ne,qb],YK _,ne,e2,fun _=>none,(Heap.Ns1.of_empty e3).at fun o q=>yw _ q,fun _=>YQ,fun y hy=>absurd rfl hy⟩
theorem attr_of {prog:Program} {env:Env} {f:Str} {Q:Value->Shared->Prop} (hb:attributeBase e f env (eval e env)=eval e env)
  (h:wpAny (model prog w) A (eval e env) (fun o s₁=>wpAny (model prog w) A (getAttr o f true) Q E s₁) E s):wpAny (model prog w) A (eval (.Attribute e f pos) env) Q E s:=
 Attribute_any_ h (by rw [arm_eval_Attribute,hb])
end
section
variable {X:Cx} {o e value:Expr} {f:Str} {pos pos' tpos:Pos} {ta tv:TE}
inductive rAdd (x:V) (y:V) (H:Hp) (Q:VK):Prop|mk (i j:_) (_:x=.int i) (_:y=.int j) (_:Q (.int (i + j)) H)
inductive rSub (x:V) (y:V) (H:Hp) (Q:VK):Prop|mk (i j:_) (_:x=.int i) (_:y=.int j) (_:Q (.int (i - j)) H)
end
section
variable {X:Cx} {pins:List (Addr×Obj)} {σ:St} {H:Hp} {s:Shared} {A:Around} {E:Value->Shared->Prop} {Q:Value->Shared->Prop} {c:Value} {b:Bool}
inductive TyOf (K:yg) (H:Hp):V->Value->Prop where
 | non:TyOf K H .non (.type "NoneType")
 | bl (x:Bool):TyOf K H (.bl x) (.type "bool")
 | int (i:Int):TyOf K H (.int i) (.type "int")
 | str (x:Str):TyOf K H (.str x) (.type "str")
 | flt (x:UInt64):TyOf K H (.flt x) (.type "float")
 | lst {a:Addr} {xs:List V} (e:H a=some (.lst xs)):TyOf K H (.ref a) (.type "list")
 | frz {a:Addr} {o:Obj} {xs:List V} (e:H a=some (.frz o (.lst xs))):TyOf K H (.ref a) (.type "list")
 | tup {a:Addr} {xs:List V} (e:H a=some (.tup xs)):TyOf K H (.ref a) (.type "tuple")
 | dK {a:Addr} {kvs:List (Key×V)} (e:H a=some (.dK kvs)):TyOf K H (.ref a) (.type "dict")
 | dT {a:Addr} {kvs:List (List Key×V)} (e:H a=some (.dT kvs)):TyOf K H (.ref a) (.type "dict")
 | ins {a C dx:Addr} {fs:List (Str×V)} (e:H a=some (.ins C dx fs)) (cl:Cls K C) (ha:PySem.W.findIn K (.ref C) "__class__"=some (some (.builtin "object.__class__")))
   (hn:PySem.W.specialIn K (.builtin "object.__class__") "__get__"=some (some (.builtin "getset_descriptor.__get__"))) (htk:PySem.W.takesIn K (.builtin "object.__class__")=some true)
   (hm:PySem.W.mroIn K C (.type "object")=some true):TyOf K H (.ref a) (.ref C)
end
structure Room (k:Nat) (A:Around):Prop where
 hd:A.handled=none
 dp:A.depth + 3 * k + 5 < recursionLimit
 un:A.units + 16 * k + 200 < cLine
 gd:A.guards=some []
theorem Room.mono {k:Nat} (r:Room k A) (h:j<=k):Room j A:=⟨r.hd,by have:=r.dp;omega,by have:=r.un;omega,r.gd⟩
theorem Room.deeper {k:Nat} (r:Room (k + 1) A) (env:Env):Room k (A.deeper env):=
 ⟨r.hd,by have:=r.dp;show A.depth + 1 + 3 * k + 5 < _;omega,by have:=r.un;show A.units + 3 + 16 * k + 200 < _;omega,r.gd⟩
theorem make_depth:(A.under (.builtin "type.__call__" ⟨.ref C::us,kw⟩)).depth=A.depth + 1:=by
 first | rfl | simp [Around.under,Code.weight,Code.isCreation,Code.isGuard,Code.isCaller,Code.frames,Code.isFrame,guardIds]
theorem make_units:(A.under (.builtin "type.__call__" ⟨.ref C::us,kw⟩)).units=A.units + 1:=by
 first | rfl | simp [Around.under,Code.cUnits,Code.frames,Code.isFrame]
theorem make_guards:(A.under (.builtin "type.__call__" ⟨.ref C::us,kw⟩)).guards=A.guards:=by
 first | rfl | simp [Around.under,Code.guards,Code.isGuard,guardIds,pushGuards]
theorem Room.make {k:Nat} (r:Room (k + 1) A) (C:Addr) (us:List Value) (kw:List (Str×Value)):Room k (A.under (.builtin "type.__call__" ⟨.ref C::us,kw⟩)):=
 ⟨r.hd,by have:=r.dp;rw [make_depth];omega,by have:=r.un;rw [make_units];omega,by rw [make_guards];exact r.gd⟩
theorem Room.depth {k:Nat} (r:Room k A):A.depth < recursionLimit:=by have:=r.dp;omega
noncomputable def qfM:TA:=fun _ H Q=>Q [] H
noncomputable def qfs (ta:TE) (tr:TA):TA:=fun σ H Q=>ta σ H fun x H1=>tr σ H1 fun xs H2=>Q (x::xs) H2
section
variable {X:Cx} {e:Expr} {es:List Expr} {te:TE} {t:TA} {pos:Pos}
theorem qd:PA X [] qfM:=fun _ _ _ _ H Q I h=>kh ⟨[],H,I,.nil,h⟩
theorem qa (ha:PE X e te) (hr:PA X es t) (hs:starEach (e::es) X.env=(false,eval e X.env)::starEach es X.env:=by rfl):PA X (e::es) (qfs te t):=by
 intro pos pins s σ H Q I h;rw [hs];show wpAny _ _ (spliced ((false,eval e X.env)::backTo pos (starEach es X.env))) _ _ s;refine kc (thn (ha pins s σ H _ I h) fun u s1 ⟨x,H1,I1,r1,q1⟩=>?_);exact thn (hr pos pins s1 σ H1 _ I1 q1) fun us s2 ⟨xs,H2,I2,r2,q2⟩=>⟨x::xs,H2,I2,.cons r1 r2,q2⟩
noncomputable def qgc (t:TA):TE:=fun σ H Q=>t σ H fun xs H1=>xs.length<=sizeLine/\∀ p,H1 p=none->Q (.ref p) (upd H1 p (.tup xs))
noncomputable def qgd (t:TA):TE:=fun σ H Q=>t σ H fun xs H1=>xs.length<=sizeLine/\∀ p,H1 p=none->Q (.ref p) (upd H1 p (.lst xs))
theorem jA {x1} (h:PA X es t):PE X (.Tuple es x1 pos) (qgc t):=by
 intro pins s σ H Q I hq;refine wpAny_Tuple_spliced (thn (h pos pins s σ H _ I hq) fun us s1 ⟨xs,H1,I1,r,z,q⟩=>⟨by rw [<- r.length];exact z,?_⟩);have hf:H1 s1.heap.objs.size=none:=I1.hok.fresh (yh _);refine ⟨.ref s1.heap.objs.size,upd H1 s1.heap.objs.size (.tup xs),I1.laid (t':=s1.toks) (fun b u e=>yw _ e) (yh _) ?_,rfl,q _ hf⟩;exact ⟨z,us,r,⟨_,yU _ rfl,rfl,_,rfl⟩⟩
theorem qM (h:PA X es t):PE X (.List es pos) (qgd t):=by
 intro pins s σ H Q I hq;refine wpAny_List_spliced (thn (h pos pins s σ H _ I hq) fun us s1 ⟨xs,H1,I1,r,z,q⟩=>⟨by rw [<- r.length];exact z,?_⟩);have hf:H1 s1.heap.objs.size=none:=I1.hok.fresh (yh _);refine ⟨.ref s1.heap.objs.size,upd H1 s1.heap.objs.size (.lst xs),I1.laid (t':=s1.toks) (fun b u e=>yw _ e) (yh _) ?_,rfl,q _ hf⟩;exact ⟨z,us,0,r,yU _ rfl⟩
end
noncomputable abbrev Sp:=List V->Hp->VK->XK->Prop
noncomputable abbrev CXT:=List Env->Hp->Shared->XK->Value->Shared->Prop
structure Env0 (P:Program) (w:World) (K:yg) (mg:Str->Option Value) (base:Heap) (A:Around) (outer:List Env) (s:Shared) (H:Hp):Prop where
 frames:A.frames=some outer
 mod:Mod K mg base
 bs:∀ b o,base.get? b=some o->s.heap.get? b=some o/\H b=none
 bsz:base.objs.size<=s.heap.objs.size
 funs:s.heap.FunFrames base outer
 frf:∀ b∈frs outer,H b=none
 hok:HOk P w H s.heap
 bare:AllBare s.gens
noncomputable def CE (outer:List Env) (P:Program) (w:World) (H:Hp) (s:Shared) (Q:VK) (u:Value) (s':Shared):Prop:=
 ∃ v H',s'.os=s.os/\AllBare s'.gens/\Un (frs outer) [] H H' s.heap s'.heap/\HOk P w H' s'.heap/\RelV v u/\Q v H'
noncomputable def CR (CX:CXT) (outer:List Env) (P:Program) (w:World) (H:Hp) (s:Shared) (Q:VK) (E:XK) (r:Result) (s':Shared):Prop:=
 match r with
 | .ok (.ret u)=>CE outer P w H s Q u s'
 | .ok _=>False
 | .error e=>CX outer H s E e s'
structure FnOk (P:Program) (w:World) (K:yg) (mg:Str->Option Value) (base:Heap) (CX:CXT) (k:Nat) (f:Addr) (fd:FuncData) (ps:List Str) (sp:Sp):Prop where
 len:∀ vs H Q E,sp vs H Q E->vs.length=ps.length
 run:∀ (A:Around) (outer:List Env) (s:Shared) (H:Hp) (args:Args) (us:List Value) (vs:List V) (Q:VK) (E:XK),Room k A->Env0 P w K mg base A outer s H->BindsTo s fd args (ps.zip us)->Vals vs us->sp vs H Q E ->
  codeAny (model P w) A (.call (.ref f) args) (CR CX outer P w H s Q E) s
theorem Env0.make {K:yg} (e:Env0 P w K mg base A outer s H) (C:Addr) (us:List Value) (kw:List (Str×Value)) :
  Env0 P w K mg base (A.under (.builtin "type.__call__" ⟨.ref C::us,kw⟩)) outer s H:=⟨by first | exact e.frames | (simpa [Around.under,Code.envs,Code.isFrame,pushEnvs] using e.frames),e.mod,e.bs,e.bsz,e.funs,e.frf,e.hok,e.bare⟩
section
variable {X:Cx} {pins:List (Addr×Obj)} {σ:St} {H:Hp} {s s':Shared}
theorem Inv.env0 (I:Inv X pins σ H s):Env0 X.prog X.w X.K X.mg X.base X.A X.stack s H:=
 ⟨I.ok.frames,I.ok.mod,I.bs,yi I.ok.bsz I.sz,I.stack,I.stkFree,I.hok,I.bare⟩
theorem Inv.after {Q:VK} (I:Inv X pins σ H s) (h:CE X.stack X.prog X.w H s Q u s'):EP X pins σ Q u s':=by
 obtain ⟨v,H',os,bare,un,hok,r,q⟩:=h;obtain ⟨hh,g,d,t,os'⟩:=s';obtain rfl:os'=s.os:=os;exact ⟨v,H',I.call (h':=hh) (g':=g) (d':=d) (t':=t) (ch:=[]) un hok bare (fun b z=>absurd z (by simp)),r,q⟩
end
noncomputable def qe2 (sp:Sp) (dvs:List V) (E:XK) (t:TA):TE:=fun σ H Q=>t σ H fun vs H1=>sp (vs++dvs) H1 Q E
noncomputable def qdW (C:Addr) (m:Str) (sp:Sp) (dvs:List V) (E:XK) (ta:TE) (t:TA):TE:=fun σ H Q=>ta σ H fun x H1=>∃ a dx fs,x=.ref a/\H1 a=some (.ins C dx fs)/\fs.lookup m=none /\
 t σ H1 fun vs H2=>sp (x::(vs++dvs)) H2 Q E
noncomputable def qe3 (C:Addr) (sp:Sp) (dvs:List V) (E:XK) (t:TA):TE:=fun σ H Q=>t σ H fun vs H1=>∀ x dx,H1 x=none->H1 dx=none->dx≠x ->
 sp (.ref x::(vs++dvs)) (upd (upd H1 dx (.own x)) x (.ins C dx [])) (fun v H2=>v=.non/\Q (.ref x) H2) E
noncomputable def Binds (K:yg) (fd:FuncData) (ps:List Str) (ds:List Value):Prop:=
 ∀ (s:Shared) (us:List Value),K.In s.heap->(us++ds).length=ps.length->BindsTo s fd ⟨us,[]⟩ (ps.zip (us++ds))
theorem Binds.all {K:yg} {fd:FuncData} (h:∀ us:List Value,us.length=ps.length->bindArgs fd ⟨us,[]⟩=pure (ps.zip us)):Binds K fd ps []:=fun s us _ hl=>by
 rw [Yi] at hl ⊢;exact .of_eq (h us hl)
noncomputable def qa3 (CX:CXT) (X:Cx) (E:XK):Prop:=∀ (pins:List (Addr×Obj)) (σ:St) (H:Hp) (s:Shared) (e:Value) (s':Shared),Inv X pins σ H s->CX X.stack H s E e s'->X.xe e s'
section
variable {X:Cx} {CX:CXT} {k:Nat} {f C:Addr} {fd:FuncData} {ps:List Str} {sp:Sp} {dvs:List V} {ds:List Value} {E:XK} {x m:Str} {p pos apos:Pos} {e o:Expr} {es:List Expr} {ta:TE} {t:TA}
theorem qdX {Q:VK} (F:FnOk X.prog X.w X.K X.mg X.base CX k f fd ps sp) (hr:Room k X.A) (hb:Binds X.K fd ps ds) (hd:Vals dvs ds) (hx:qa3 CX X E)
  (I:Inv X pins σ H s) (r:Vals vs us) (h:sp (vs++dvs) H Q E):wpAny (model X.prog X.w) X.A (call (.ref f) us) (EP X pins σ Q) X.xe s:=by
 have r2:Vals (vs++dvs) (us++ds):=r.append hd;have hl:(us++ds).length=ps.length:=by rw [<- r2.length];exact F.len _ _ _ _ h
 refine ke (kF (F.run X.A X.stack s H ⟨us,[]⟩ (us++ds) (vs++dvs) Q E hr I.env0 (hb s us I.kIn hl) r2 h) fun r s' hq=>?_)
 cases r with
 | error e=>exact hx pins σ H s e s' I hq
 | ok fl =>
  cases fl with
  | ret u=>exact I.after hq
  | next=>exact False.elim hq
  | brk=>exact False.elim hq
  | cont=>exact False.elim hq
theorem pe_call (F:FnOk X.prog X.w X.K X.mg X.base CX k f fd ps sp) (hr:Room k X.A) (hg:Gl X x) (hm:X.mg x=some (.ref f)) (hk:PySem.W.keepIn X.K (.ref f)=true) (hb:Binds X.K fd ps ds) (hd:Vals dvs ds) (hx:qa3 CX X E)
  (ha:PA X (e::es) t) (hdb:(x==("__debug__":Str))=false:=by decide) (he:starEach (e::es) X.env=(false,eval e X.env)::starEach es X.env:=by rfl) (hpl:(backTo pos (starEach es X.env)).any (·.1)=false:=by rfl) :
  PE X (.Call (.Name x p) (e::es) [] pos) (qe2 sp dvs E t):=by
 intro pins s σ H Q I h;refine Xu (qcU I hg hm ?_ hdb);refine kf (h₀:=X.base) I.ok.mod.kin hk (thn (ha pos pins s σ H _ I h) fun us s1 ⟨vs,H1,I1,r,q⟩=>⟨I1.kIn,?_⟩) he hpl;exact qdX F hr hb hd hx I1 r q
theorem pe_meth {pl:Sem Bool} (he:PE X o ta) (c:Cls X.K C) (hm:Meth X.K C m f) (F:FnOk X.prog X.w X.K X.mg X.base CX k f fd ps sp) (hr:Room k X.A) (hb:Binds X.K fd ps ds) (hd:Vals dvs ds) (hx:qa3 CX X E) (ha:PA X (e::es) t)
  (hst:starEach (e::es) X.env=(false,eval e X.env)::starEach es X.env:=by rfl) (hpl:(backTo pos (starEach es X.env)).any (·.1)=false:=by rfl)
  (ht:eval (.Call (.Attribute o m apos) (e::es) [] pos) X.env=(do
   let ov <- eval o X.env
   standAt apos.atName
   let (f,first) <- holding [ov] (getMethod ov m pl)
   callWith pos f first (backTo pos (starEach (e::es) X.env)) (backToKw pos (keywordEach [] X.env))):=by rfl) :
  PE X (.Call (.Attribute o m apos) (e::es) [] pos) (qdW C m sp dvs E ta t):=by
 intro pins s σ H Q I h;refine PySem.W.methodCall_KW (pl:=pl) (thn (he pins s σ H _ I h) fun u s1 ⟨x,H1,I1,rx,a,dx,fs,ex,ea,l,q⟩=>?_) ht;subst ex;obtain rfl:u=Value.ref a:=rx;refine qbO I1 ea c hm l ?_;refine kf (first:=[.ref a]) (h₀:=X.base) I.ok.mod.kin hm.kp (thn (ha pos pins s1 σ H1 _ I1 q) fun us s2 ⟨vs,H2,I2,r,q2⟩=>⟨I2.kIn,?_⟩) hst hpl;exact qdX (us:=.ref a::us) (vs:=.ref a::vs) F hr hb hd hx I2 (.cons rfl r) q2
theorem pe_meth0 {pl:Sem Bool} (he:PE X o ta) (c:Cls X.K C) (hm:Meth X.K C m f) (F:FnOk X.prog X.w X.K X.mg X.base CX k f fd ps sp) (hr:Room k X.A) (hb:Binds X.K fd ps ds) (hd:Vals dvs ds) (hx:qa3 CX X E)
  (ht:eval (.Call (.Attribute o m apos) [] [] pos) X.env=(do
   let ov <- eval o X.env
   standAt apos.atName
   let (f,first) <- holding [ov] (getMethod ov m pl)
   callWith pos f first (backTo pos (starEach [] X.env)) (backToKw pos (keywordEach [] X.env))):=by rfl) :
  PE X (.Call (.Attribute o m apos) [] [] pos) (qdW C m sp dvs E ta qfM):=by
 intro pins s σ H Q I h;refine PySem.W.methodCall_KW (pl:=pl) (thn (he pins s σ H _ I h) fun u s1 ⟨x,H1,I1,rx,a,dx,fs,ex,ea,l,q⟩=>?_) ht;subst ex;obtain rfl:u=Value.ref a:=rx;refine qbO I1 ea c hm l ?_;exact PySem.W.callWith_K0 (first:=[.ref a]) I1.kIn hm.kp (qdX (us:=[.ref a]) (vs:=[.ref a]) F hr hb hd hx I1 (.cons rfl .nil) q)
structure Mk (K:yg) (C f:Addr):Prop where
 makes:PySem.W.makesIn K C=true
 init:PySem.W.findIn K (.ref C) "__init__"=some (some (.ref f))
 fn:PySem.W.isFn K (.ref f)=true
 kp:PySem.W.keepIn K (.ref C)=true
theorem run_make {Q:VK} (M:Mk X.K C f) (F:FnOk X.prog X.w X.K X.mg X.base CX k f fd ps sp) (hr:Room (k + 1) X.A) (hb:Binds X.K fd ps ds) (hd:Vals dvs ds)
  (hx:qa3 CX X E) (I:Inv X pins σ H s) (r:Vals vs us)
  (h:∀ x dx,H x=none->H dx=none->dx≠x->sp (.ref x::(vs++dvs)) (upd (upd H dx (.own x)) x (.ins C dx [])) (fun v H2=>v=.non/\Q (.ref x) H2) E) :
  wpAny (model X.prog X.w) X.A (call (.ref C) us) (EP X pins σ Q) X.xe s:=by
 have hq:=h (s.heap.objs.size + 1) s.heap.objs.size (I.hok.fresh (Xg _)) (I.hok.fresh (yh _)) (yN (Xk _));have I2:=Inv.made (C:=C) I;have r2:Vals (V.ref (s.heap.objs.size + 1)::(vs++dvs)) (Value.ref (s.heap.objs.size + 1)::(us++ds)):=.cons rfl (r.append hd)
 have hl:(Value.ref (s.heap.objs.size + 1)::us++ds).length=ps.length:=by
  have e:=r2.length;rw [F.len _ _ _ _ hq] at e;exact e.symm
 refine ke (make_map (f:=f) I.kIn M.makes M.init (Yo.mp M.fn) (kF (F.run _ X.stack _ _ ⟨Value.ref (s.heap.objs.size + 1)::us,[]⟩ (Value.ref (s.heap.objs.size + 1)::(us++ds)) _ _ E (hr.make C us [])
  (I2.env0.make C us []) (hb _ (Value.ref (s.heap.objs.size + 1)::us) I2.kIn hl) r2 hq) fun r s' hq'=>?_))
 cases r with
 | error e=>exact hx pins σ _ _ e s' I2 hq'
 | ok fl =>
  cases fl with
  | ret u =>
   obtain ⟨v,H',I3,rv,ev,q3⟩:=I2.after hq';subst ev;exact ⟨rv,⟨V.ref (s.heap.objs.size + 1),H',I3,rfl,q3⟩⟩
  | next=>exact False.elim hq'
  | brk=>exact False.elim hq'
  | cont=>exact False.elim hq'
theorem pe_make (M:Mk X.K C f) (F:FnOk X.prog X.w X.K X.mg X.base CX k f fd ps sp) (hr:Room (k + 1) X.A) (hg:Gl X x) (hm:X.mg x=some (.ref C)) (hb:Binds X.K fd ps ds) (hd:Vals dvs ds) (hx:qa3 CX X E)
  (ha:PA X (e::es) t) (hdb:(x==("__debug__":Str))=false:=by decide) (he:starEach (e::es) X.env=(false,eval e X.env)::starEach es X.env:=by rfl) (hpl:(backTo pos (starEach es X.env)).any (·.1)=false:=by rfl) :
  PE X (.Call (.Name x p) (e::es) [] pos) (qe3 C sp dvs E t):=by
 intro pins s σ H Q I h;refine Xu (qcU I hg hm ?_ hdb);refine kf (h₀:=X.base) I.ok.mod.kin M.kp (thn (ha pos pins s σ H _ I h) fun us s1 ⟨vs,H1,I1,r,q⟩=>⟨I1.kIn,?_⟩) he hpl;exact run_make M F hr hb hd hx I1 r q
end
section
variable {X:Cx} {CX:CXT} {k:Nat} {f C:Addr} {fd:FuncData} {ps ks:List Str} {sp:Sp} {E:XK} {x m:Str} {p pos apos kpos:Pos} {e o:Expr} {es:List Expr} {kws:List Keyword} {te ta:TE} {t tk:TA} {nm:Option Str}
structure KBinds (K:yg) (fd:FuncData) (ps ks:List Str) (g:List Value->List Value->List Value) (gV:List V->List V->List V):Prop where
 to:∀ (s:Shared) (us ws:List Value),K.In s.heap->(g us ws).length=ps.length->BindsTo s fd ⟨us,ks.zip ws⟩ (ps.zip (g us ws))
 rel:∀ {vs:List V} {us:List Value} {zs:List V} {ws:List Value},Vals vs us->Vals zs ws->Vals (gV vs zs) (g us ws)
variable {g:List Value->List Value->List Value} {gV:List V->List V->List V}
end
structure FnScope (N P:List Str) (sc:Scope):Prop where
 kind:sc.kind=.function
 co:sc.isCoroutine=false
 gen:sc.isGenerator=false
 nd:N.Nodup
 pre:N.take P.length=P
 par:∀ x∈P,sc.names.lookup x=some .local\/sc.names.lookup x=some .cell
 nofree:∀ y∈sc.names,y.2≠.free
theorem fS {P:List Str} (a:sc.kind=.function:=by rfl) (b:sc.isCoroutine=false:=by rfl) (c:sc.isGenerator=false:=by rfl) (d:N.Nodup:=by decide +kernel) (e:N.take P.length=P:=by rfl) (f:∀ x∈P,sc.names.lookup x=some .local\/sc.names.lookup x=some .cell:=by decide +kernel) (g:∀ y∈sc.names,y.2≠.free:=by decide +kernel):FnScope N P sc:=⟨a,b,c,d,e,f,g⟩
theorem qco:∀ {binds:List (Str×Value)} {m:Str->Option Value},(∀ v,(x,v)∉binds)->bindL kindOf binds m x=m x
 | [],_,_=>rfl
 | (n,v)::r,m,h=>by
  unfold bindL;rw [qco fun w hw=>h w (yJ _ hw)];split
  ·have:x≠n:=by rintro rfl;exact h v yZ
   simp [this]
  ·rfl
theorem qcp:∀ {binds:List (Str×Value)} {m:Str->Option Value},(∀ v,(x,v)∉binds)->bindC kindOf binds m x=m x
 | [],_,_=>rfl
 | (n,v)::r,m,h=>by
  unfold bindC;rw [qcp fun w hw=>h w (yJ _ hw)];split
  ·rfl
  ·have:x≠n:=by rintro rfl;exact h v yZ
   simp [this]
theorem qcq {v:Value}:∀ {P:List Str} {vs:List Value} {i:Nat} {m:Str->Option Value},P.Nodup->P[i]?=some x->vs[i]?=some v->kindOf x=some .local ->
  bindL kindOf (P.zip vs) m x=some v
 | [],_,_,_,_,h,_,_=>by simp at h
 | _::_,[],_,_,_,_,h,_=>by simp at h
 | p::P,w::vs,0,m,nd,h1,h2,hk=>by
  simp at h1 h2;subst h1;subst h2;show bindL kindOf ((p,w)::P.zip vs) m p=_;unfold bindL;rw [qco fun v hv=>(yo.mp nd).1 (kJ hv).1,yF hk];simp
 | p::P,w::vs,i + 1,m,nd,h1,h2,hk=>by
  show bindL kindOf ((p,w)::P.zip vs) m x=_;unfold bindL;exact qcq (i:=i) (yo.mp nd).2 (by simpa using h1) (by simpa using h2) hk
theorem qcr {v:Value}:∀ {P:List Str} {vs:List Value} {i:Nat} {m:Str->Option Value},P.Nodup->P[i]?=some x->vs[i]?=some v->kindOf x≠some .local ->
  bindC kindOf (P.zip vs) m x=some v
 | [],_,_,_,_,h,_,_=>by simp at h
 | _::_,[],_,_,_,_,h,_=>by simp at h
 | p::P,w::vs,0,m,nd,h1,h2,hk=>by
  simp at h1 h2;subst h1;subst h2;show bindC kindOf ((p,w)::P.zip vs) m p=_;unfold bindC;rw [qcp fun v hv=>(yo.mp nd).1 (kJ hv).1,yC hk];simp
 | p::P,w::vs,i + 1,m,nd,h1,h2,hk=>by
  show bindC kindOf ((p,w)::P.zip vs) m x=_;unfold bindC;exact qcr (i:=i) (yo.mp nd).2 (by simpa using h1) (by simpa using h2) hk
noncomputable def start (N:List Str) (vs:List V):St:=vs.map some++List.replicate (N.length - vs.length) none
noncomputable def qff (CX:CXT) (P:Program) (w:World) (K:yg) (mg:Str->Option Value) (base:Heap) (N:List Str) (qual:Str) (scope:Scope) (f:Addr) (cd:Value) (A:Around) (outer:List Env) (s:Shared) (H:Hp) (E:XK):Cx where
 prog:=P
 w:=w
 K:=K
 mg:=mg
 base:=base
 A:=A.deeper (envOfC qual scope s.heap.objs.size f cd)
 N:=N
 s₀:=s
 H₀:=H
 env:=envOfC qual scope s.heap.objs.size f cd
 outer:=outer
 stack:=envOfC qual scope s.heap.objs.size f cd::outer
 ex:=[]
 calm:=true
 fn:=fun _=>true
 pn:=[]
 xe:=fun e s'=>wpAny (model P w) (A.deeper (envOfC qual scope s.heap.objs.size f cd)) (leaving (envOfC qual scope s.heap.objs.size f cd) e) (fun _ s''=>CX outer H s E e s'') (fun e' s''=>CX outer H s E e' s'') s'
theorem qdq (h:sc.names.lookup x=some .cell):∃ c,(cellsFrom n sc.names []).lookup x=some c:=by
 have q:=PySem.W.cellsFrom_some sc.names n [] (.inl h);exact Y1.mp q
theorem inv_start {K:yg} {f:Addr} {cd:Value} {s1:Shared} {E:XK}
  (S:FnScope N ps scope) (hd:A.handled=none) (e0:Env0 P w K mg base A outer s H) (hl:vs.length=ps.length) (r:Vals vs us)
  (x:InCallC s s.heap.objs.size (bindL (envOfC qual scope s.heap.objs.size f cd).kindOf (ps.zip us) fun _=>none) (cellsFrom (s.heap.objs.size + 1) scope.names []) (bindC (envOfC qual scope s.heap.objs.size f cd).kindOf (ps.zip us) fun _=>none) s1) :
  Inv (qff CX P w K mg base N qual scope f cd A outer s H E) [] (start N vs) H s1:=by
 have hpl:ps.length<=N.length:=by have:=congrArg List.length S.pre;rw [yL] at this;omega
 obtain ⟨h1,tk,rfl,hk⟩:=x.done;have noA:∀ b:Addr,b∉(qff CX P w K mg base N qual scope f cd A outer s H E).ex:=fun b z=>absurd (show b∈([]:List Addr) from z) (by simp);refine ⟨⟨e0.mod,S.kind,rfl,rfl,yh _,fun y z c h1 h2=>?_,fun y hy=>?_,fun y c _ h=>?_,fun _=>hd,Around.frames_deeper e0.frames,.inr ⟨rfl,rfl⟩,fun b z=>absurd z (noA b),e0.bs,e0.bsz,fun b _ _=>noA b,fun b z=>absurd z (noA b),e0.funs,e0.frf⟩,
  rfl,e0.bare,Un.kept hk,⟨_,x.toInCall.ns,fun i y v h1 h2 h3=>?_⟩,fun y c h=>⟨_,x.cell y c h⟩,e0.hok.fresh (yh _),fun y c h=>?_,fun p hp=>absurd (show p∈([]:List (Addr×Obj)) from hp) (by simp),e0.hok.kept hk,?_⟩
 ·exact name_of_addr x.apart (xI h1) (xI h2)
 ·have hy:scope.names.lookup y=some .cell\/scope.names.lookup y=some .free:=hy;rcases hy with hy | hy
  ·exact qdq hy
  ·exact absurd rfl (S.nofree _ (xI hy))
 ·exact yX (x.above y c (xI h))
 ·have hi:i < vs.length:=by
   unfold start at h2;by_cases hi:i < vs.length
   ·exact hi
   ·rw [yI (by simpa using hi)] at h2;rw [xN] at h2;split at h2<;>cases h2
  have ha:vs[i]?=some v:=by
   unfold start at h2;rw [Yc (by simpa using hi),yd] at h2
   cases e:vs[i]? with
   | none=>rw [e] at h2;cases h2
   | some a=>rw [e] at h2;cases h2;rfl
  obtain ⟨u,hu,rv⟩:=r.get ha
  have hp:ps[i]?=some y:=by
   rw [<- S.pre,List.getElem?_take_of_lt (by omega)];exact h1
  have ndP:ps.Nodup:=by rw [<- S.pre];exact S.nd.sublist (Xy _ _)
  refine ⟨u,rv,?_⟩;rcases S.par y (ye hp) with k | k
  ·exact .inl ⟨k,qcq ndP hp hu k⟩
  ·obtain ⟨c,e⟩:=qdq (n:=s.heap.objs.size + 1) k;refine .inr ⟨.inl k,c,e,?_⟩;have q:=x.cell y c e;rw [qcr ndP hp hu (by show scope.names.lookup y≠_;rw [k];decide)] at q;exact q
 ·exact e0.hok.fresh (yX (x.above y c (xI h)))
 ·unfold start;show _=N.length;rw [yt,ya,YD];omega
theorem fn_of {K:yg} {k:Nat} {f:Addr} {name:Str} {params:Arguments} {dV kV doc pm cdv ct oc:Value} {an od:Option Addr}
  {osl:Array (Option Value)} {sp:Sp} (lk:K.lookup f=some ⟨oc,od,.func (PySem.W.fnOf name qual params body scope dV kV doc pm an cdv ct),osl⟩) (hcd:PySem.W.codeIn K cdv qual=true) (S:FnScope N ps scope)
  (len:∀ vs H Q E,sp vs H Q E->vs.length=ps.length)
  (hbody:∀ (A:Around) (outer:List Env) (s:Shared) (H:Hp) (vs:List V) (Q:VK) (E:XK),Room k (A.deeper (envOfC qual scope s.heap.objs.size f cdv))->sp vs H Q E ->
   ∃ t,PSs (qff CX P w K mg base N qual scope f cdv A outer s H E) body t/\t { nx:=fun _ H'=>Q .non H',rt:=Q } (start N vs) H) :
  FnOk P w K mg base CX (k + 1) f (PySem.W.fnOf name qual params body scope dV kV doc pm an cdv ct) ps sp:=by
 refine ⟨len,fun A outer s H args us vs Q E hr e0 hb r hsp=>?_⟩;have hl:=len _ _ _ _ hsp;have KX:K.In s.heap:=e0.mod.kin.keeps fun b o e=>(e0.bs b o e).1;have lim:s.heap.NoLimit:=e0.mod.nolimit.keeps fun b o e=>(e0.bs b o e).1
 have hkind:∀ y∈ps.zip us,scope.names.lookup y.1=some .local\/(scope.names.lookup y.1=some .cell/\((cellsFrom (s.heap.objs.size + 1) scope.names []).lookup y.1).isSome=true):=fun ⟨n,v⟩ hy=>by
  rcases S.par n (kJ hy).1 with q | q
  ·exact .inl q
  ·exact .inr ⟨q,PySem.W.cellsFrom_some _ _ _ (.inl q)⟩
 refine codeAny_call_function hr.depth (KX _ _ lk) rfl S.co S.gen rfl (PySem.W.codeRec_of KX hcd) (hb _ _ _ _ ?_);refine wpAny_newFunctionEnv_cells S.kind hkind fun env he s1 x=>?_;subst he;refine ⟨lim.keeps x.toInCall.keep,codeAny_func ?_⟩;obtain ⟨t,ht,hq⟩:=hbody A outer s H vs Q E (hr.deeper _) hsp;have I:Inv (qff CX P w K mg base N qual scope f cdv A outer s H E) [] (start N vs) H s1:=inv_start S hr.hd e0 hl r x;refine YV (ht [] s1 (start N vs) H _ I hq) (fun fl s' hs=>?_) fun e s' hs=>hs
 have fin:∀ {σ':St} {H':Hp} {v:V} {u:Value},Inv (qff CX P w K mg base N qual scope f cdv A outer s H E) [] σ' H' s'->RelV v u->Q v H'->CE outer P w H s Q u s':=
  fun {σ' H' v u} J rv q=>⟨v,H',J.os,J.bare,J.base,J.hok,rv,q⟩
 cases fl with
 | ret u =>
  obtain ⟨v,σ',H',J,rv,q⟩:=hs;exact fin J rv q
 | next =>
  obtain ⟨σ',H',J,q⟩:=hs;exact fin (v:=V.non) (u:=Value.none) J rfl q
 | brk =>
  obtain ⟨_,_,_,q⟩:=hs;exact False.elim q
 | cont =>
  obtain ⟨_,_,_,q⟩:=hs;exact False.elim q
section
variable {X:Cx} {x:Str} {p pos:Pos} {e:Expr} {es:List Expr} {t:TA} {id T:String} {r:List V->Hp->VK->Prop}
noncomputable def tCB (r:List V->Hp->VK->Prop) (t:TA):TE:=fun σ H Q=>t σ H fun vs H1=>r vs H1 Q
theorem qp (hc:zL X (.builtin id) r) (hg:Gl X x) (hm:X.mg x=none) (hv:bootBuiltins x=some (.builtin id)) (ha:PA X (e::es) t) (hn:x≠"__name__":=by decide) (hdb:(x==("__debug__":Str))=false:=by decide)
  (he:starEach (e::es) X.env=(false,eval e X.env)::starEach es X.env:=by rfl) (hpl:(backTo pos (starEach es X.env)).any (·.1)=false:=by rfl):PE X (.Call (.Name x p) (e::es) [] pos) (tCB r t):=by
 intro pins s σ H Q I h;refine Xu (qaw I hg hm hv ?_ hn hdb);exact PyProof.Rows.callWith_builtin1 (thn (ha pos pins s σ H _ I h) fun us s1 ⟨vs,H1,I1,r1,q1⟩=>hc pins s1 σ H1 vs us Q I1 r1 q1) he hpl
theorem zQ (hc:zL X (.type T) r) (hg:Gl X x) (hm:X.mg x=none) (hv:bootBuiltins x=some (.type T)) (ha:PA X (e::es) t) (hn:x≠"__name__":=by decide) (hdb:(x==("__debug__":Str))=false:=by decide)
  (he:starEach (e::es) X.env=(false,eval e X.env)::starEach es X.env:=by rfl) (hpl:(backTo pos (starEach es X.env)).any (·.1)=false:=by rfl):PE X (.Call (.Name x p) (e::es) [] pos) (tCB r t):=by
 intro pins s σ H Q I h;refine Xu (qaw I hg hm hv ?_ hn hdb);exact Yz (thn (ha pos pins s σ H _ I h) fun us s1 ⟨vs,H1,I1,r1,q1⟩=>hc pins s1 σ H1 vs us Q I1 r1 q1) he hpl
end
end L2
namespace HT
open PySem PyProof.Rows
variable {hi lo:Option Int} {sl t:Addr} {vl vu:Value}
noncomputable def lexLt:List Int->List Int->Bool
 | [],[]=>false
 | [],_::_=>true
 | _::_,[]=>false
 | x::xs,y::ys=>if x=y then lexLt xs ys else decide (x < y)
section
open PySem.SeqAt
open PySem.AutoSeq1 (wpAny_loadPart')
open PySem.MeetsSeq PySem.MeetsSeq2 PySem.MeetsSeq3
end
section
variable {prog:Program} {w:World} {A:Around} {E:Value->Shared->Prop} {s:Shared}
theorem cat_tup {b:Addr} {vs ws:List Value} {Q:Value->Shared->Prop} (ht:IsTup s.heap t vs.toArray) (hb:IsTup s.heap b ws.toArray) (hv:vs≠[])
  (h1:ws=[]->Q (.ref t) s) (h2:ws≠[]->Q (.ref s.heap.objs.size) { s with heap:=s.heap.push { cls:=.type "tuple",data:=.seq (vs++ws).toArray } })
  (hsz:vs.length + ws.length<=sizeLine):wpAny (model prog w) A (binaryOp .Add (.ref t) (.ref b)) Q E s:=by
 obtain ⟨⟨cls,dd,data,sl⟩,ho,hc,n,hd⟩:=id ht;obtain ⟨⟨cls2,dd2,data2,sl2⟩,ho2,hc2,n2,hd2⟩:=id hb;simp only at hc hd hc2 hd2;subst hc hd hc2 hd2;have e:vs.toArray++ws.toArray=(vs++ws).toArray:=by simp
 by_cases hw:ws=[]
 ·exact concat_meets ⟨_,ho,rfl⟩ ⟨_,ho2,rfl⟩ noFill_tuple_add seq_tuple_add PySem.F.slot_tuple_add PySem.F.entry_tuple_add (PySem.F.args_tuple_add_2 _ _)
   (tuple_addW1 t b vs.toArray ws.toArray n n2 dd dd2 sl sl2 (by simpa using hv) (by simp [hw])) ⟨ho,ho2,h1 hw⟩
 ·refine concat_meets ⟨_,ho,rfl⟩ ⟨_,ho2,rfl⟩ noFill_tuple_add seq_tuple_add PySem.F.slot_tuple_add PySem.F.entry_tuple_add (PySem.F.args_tuple_add_2 _ _)
   (tuple_addW2 t b vs.toArray ws.toArray n n2 dd dd2 sl sl2 (by simpa using hv) (by simpa using hw) (by rw [yv,yv];exact hsz)) ⟨ho,ho2,?_⟩
  rw [e];exact h2 hw
noncomputable def sIx (n d:Nat):Option Int->Nat
 | none=>d
 | some v=>if v < 0 then (v + (n:Int)).toNat else min v.toNat n
theorem sIx_none (n d:Nat):sIx n d none=d:=rfl
theorem sIx_nat (n d k:Nat):sIx n d (some (k:Int))=min k n:=by
 show (if (k:Int) < 0 then ((k:Int) + (n:Int)).toNat else min (k:Int).toNat n)=min k n;rw [yC (by omega),Yd]
theorem sIx_le (n d:Nat) (hd:d<=n) (o:Option Int):sIx n d o<=n:=by
 cases o with
 | none=>exact hd
 | some v =>
  show (if v < 0 then (v + (n:Int)).toNat else min v.toNat n)<=n;by_cases hv:v < 0
  ·rw [yF hv];omega
  ·rw [yC hv];exact ky _ _
theorem qdY (v:Int) (n d:Nat):(if v < 0 then max (v + (n:Int)) 0 else min v (n:Int))=((sIx n d (some v):Nat):Int):=by
 show (if v < 0 then max (v + (n:Int)) 0 else min v (n:Int))=(((if v < 0 then (v + (n:Int)).toNat else min v.toNat n):Nat):Int);by_cases hv:v < 0
 ·simp only [yF hv];omega
 ·simp only [yC hv];omega
theorem adjust_gen (lo hi:Option Int) (n:Nat):Builtin.Slice.sliceAdjust lo hi 1 (n:Int)=(((sIx n 0 lo:Nat):Int),((sIx n n hi:Nat):Int)):=by
 have h1:¬ ((1:Int) < 0):=by omega
 unfold Builtin.Slice.sliceAdjust;simp only [h1,XU];refine x0 ?_ ?_
 ·cases lo with
  | none=>rfl
  | some v=>exact qdY v n 0
 ·cases hi with
  | none=>rfl
  | some v=>exact qdY v n n
theorem places_gen (i j:Nat):Builtin.Slice.slicePlaces (i:Int) (j:Int) 1=j - i:=by
 unfold Builtin.Slice.slicePlaces;have h1:(1:Int) > 0:=by omega
 simp only [h1,Xz,Int.ediv_one];split<;>omega
theorem qbP {v:Value} {o:Option Int} {Q:Option Int->Shared->Prop} (p:IsPart v o) (h:Q o s):wpAny (model prog w) A (Builtin.Slice.slicePartIndex v) Q E s:=by
 cases p with
 | none=>exact slicePart_none h
 | int i t=>exact slicePart_int h
theorem sliceApplied_gen {n:Nat} {Q:Int×Int×Nat->Shared->Prop} (hs:s.heap.IsSliceOf sl vl vu .none) (pl:IsPart vl lo) (pu:IsPart vu hi)
  (h:Q (((sIx n 0 lo:Nat):Int),1,sIx n n hi - sIx n 0 lo) s):wpAny (model prog w) A (Builtin.Slice.sliceApplied (.ref sl) (pure (n:Int))) Q E s:=by
 obtain ⟨os,hos,hcs,hds⟩:=id hs;unfold Builtin.Slice.sliceApplied Builtin.Slice.sliceFields;refine yr (yr (xU hos hds (x:=vl) rfl (yr (xU hos hds (x:=vu) rfl (yr (xU hos hds (x:=.none) rfl (yx ?_)))))));refine yr (slicePart_none ?_);show wpAny _ _ (if ((1:Int)==0)=true then _ else _) _ _ s;rw [yC (by decide)];refine yr (qbP pl (yr (qbP pu (yr (yx ?_)))));show wpAny _ _ (match Builtin.Slice.sliceAdjust lo hi 1 (n:Int) with | (lo,hi)=>pure (lo,(1:Int),Builtin.Slice.slicePlaces lo hi 1)) _ _ s;rw [adjust_gen lo hi n];show wpAny _ _ (pure (((sIx n 0 lo:Nat):Int),(1:Int),Builtin.Slice.slicePlaces ((sIx n 0 lo:Nat):Int) ((sIx n n hi:Nat):Int) 1)) _ _ s;rw [places_gen];exact yx h
theorem pick_gen (xs:Array Value) (i k:Nat):((List.range k).filterMap fun (m:Nat)=>xs[((i:Int) + (m:Int) * 1).toNat]?).toArray=((xs.toList.drop i).take k).toArray:=by
 have e:(fun (m:Nat)=>xs[((i:Int) + (m:Int) * 1).toNat]?)=fun m=>xs[i + m]?:=by
  funext m;have:((i:Int) + (m:Int) * 1).toNat=i + m:=by omega
  rw [this]
 rw [e];have:=pick_run xs i k;rw [List.filterMap_map] at this;have e2:((fun x=>xs[x]?) ∘ fun x=>i + x)=fun m=>xs[i + m]?:=rfl;rw [e2] at this;rw [this]
theorem getItem_tuple_cut {items:Array Value} {Q:Value->Shared->Prop} (ht:IsTup s.heap t items) (hs:s.heap.IsSliceOf sl vl vu .none) (pl:IsPart vl lo) (pu:IsPart vu hi)
  (hw:¬ (sIx items.size 0 lo=0/\sIx items.size items.size hi=items.size))
  (h:Q (.ref s.heap.objs.size) { s with heap:=s.heap.push { cls:=.type "tuple",data:=.seq ((items.toList.drop (sIx items.size 0 lo)).take (sIx items.size items.size hi - sIx items.size 0 lo)).toArray } })
  (hsz:items.size<=sizeLine):wpAny (model prog w) A (getItem (.ref t) (.ref sl)) Q E s:=by
 have htake:sizeOk (.seq ((items.toList.drop (sIx items.size 0 lo)).take (sIx items.size items.size hi - sIx items.size 0 lo)).toArray):=by
  show ((items.toList.drop (sIx items.size 0 lo)).take (sIx items.size items.size hi - sIx items.size 0 lo)).toArray.size<=sizeLine;rw [yv,yL,Xl,xH];omega
 have hj:sIx items.size items.size hi<=items.size:=sIx_le _ _ (yh _) hi;obtain ⟨os,hos,hcs,hds⟩:=id hs;have hTs:s.TypeIs (.ref sl) "slice":=⟨os,hos,hcs⟩;unfold getItem
 try with_reducible refine Ys ?_
 first | refine yr (yx ?_) | skip
 refine yr (wpAny_sequenceKey ht.typeIs (by decide) ?_);refine yr (Xx (name:=Str.ofString "__getitem__") ht.typeIs xG
  (XJ xG ht.typeIs entry_tuple_getitem ?_ (args_tuple_getitem _ _)))
 show wpAny _ _ (Builtin.Tuple.tupleItemsOf (.ref t)>>=_) _ _ s;refine yr (tupleItemsOf_ ht ?_);refine yr (wpAny_typeOf hTs ?_);rw [yF (by decide)];refine yr (sliceApplied_gen hs pl pu ?_)
 have hno:¬ ((((sIx items.size 0 lo:Nat):Int)==0&&(1:Int)==1&&(sIx items.size items.size hi - sIx items.size 0 lo)==items.size)=true):=by
  intro q;rw [Ye,Ye] at q;have q1:((sIx items.size 0 lo:Nat):Int)=0:=eq_of_beq q.1.1;have q2:sIx items.size items.size hi - sIx items.size 0 lo=items.size:=eq_of_beq q.2;exact hw ⟨by omega,by omega⟩
 show wpAny _ _ (if (((sIx items.size 0 lo:Nat):Int)==0&&(1:Int)==1&&(sIx items.size items.size hi - sIx items.size 0 lo)==items.size)=true then _ else _) _ _ s;rw [yC hno,pick_gen]
 first
  | exact yr (m:=Builtin.Tuple.tupleExact _) (Xc (yx ⟨_,rfl,yx h⟩) htake)
  | exact yr (m:=Builtin.Tuple.tupleExact _) (Xc (yr (yx (yx ⟨_,rfl,yx h⟩))) htake)
  | exact yr (yr (m:=Builtin.Tuple.tupleExact _) (Xc (yx (yx ⟨_,rfl,yx h⟩)) htake))
  | exact yr (yr (m:=Builtin.Tuple.tupleExact _) (Xc (yx ⟨_,rfl,yx h⟩) htake))
end
end HT
namespace L2
open PySem PySem.Spec PyProof.Rows
variable {A:Around} {H H':Hp} {P:Program} {X:Cx} {a p:Addr} {h':Heap} {i:Int} {its its' us:List Value} {j n t':Nat} {kvs:List (List Key×V)} {o:Option V} {pins:List (Addr×Obj)} {r:R2} {s:Shared} {u v:Value} {w:World} {x y:V} {xs:List V} {α:Type} {σ:St}
noncomputable abbrev TO:=St->Hp->(Option Int->Hp->Prop)->Prop
noncomputable def PO (X:Cx) (e:Option Expr) (t:TO):Prop:=
 ∀ (pins:List (Addr×Obj)) (s:Shared) (σ:St) (H:Hp) (Q:Option Int->Hp->Prop),Inv X pins σ H s->t σ H Q ->
  wpAny (model X.prog X.w) X.A (evalPart e X.env) (fun u s'=>∃ o H',Inv X pins σ H' s'/\IsPart u o/\Q o H') X.xe s
noncomputable def qdZ:TO:=fun _ H Q=>Q none H
noncomputable def qft (t:TE):TO:=fun σ H Q=>t σ H fun x H1=>∃ i,x=.int i/\Q (some i) H1
section
variable {X:Cx} {e:Expr} {te:TE} {lo hi:Option Expr} {tl th:TO} {pos p2:Pos}
theorem jz:PO X none qdZ:=by
 intro pins s σ H Q I h;rw [kn];exact yx ⟨none,H,I,.none,h⟩
theorem jk (h:PE X e te):PO X (some e) (qft te):=by
 intro pins s σ H Q I hw;rw [evalPart_some];refine thn (h pins s σ H _ I hw) fun u s1 ⟨x,H1,I1,r1,q1⟩=>?_;obtain ⟨i,rfl,q⟩:=q1;obtain ⟨t,rfl⟩:=r1;exact ⟨some i,H1,I1,.int i t,q⟩
noncomputable def SlR (X:Cx) (r:V->Option Int->Option Int->Hp->VK->Prop):Prop:=
 ∀ (pins:List (Addr×Obj)) (s:Shared) (σ:St) (H:Hp) (x:V) (v vl vu:Value) (lo hi:Option Int) (sl:Addr) (Q:VK),Inv X pins σ H s->RelV x v->s.heap.IsSliceOf sl vl vu .none->IsPart vl lo->IsPart vu hi->r x lo hi H Q ->
  ∃ T id,typeLookup (.type T) "__getitem__"=pure (some (.builtin id))/\s.TypeIs v T/\wpAny (model X.prog X.w) X.A (getItem v (.ref sl)) (EP X pins σ Q) X.xe s
noncomputable def tSl (r:V->Option Int->Option Int->Hp->VK->Prop) (te:TE) (tl th:TO):TE:=fun σ H Q=>te σ H fun x H1=>tl σ H1 fun l H2=>th σ H2 fun u H3=>r x l u H3 Q
theorem jf {r:V->Option Int->Option Int->Hp->VK->Prop} (hr:SlR X r) (he:PE X e te) (hl:PO X lo tl) (hu:PO X hi th):PE X (.Subscript e (.Slice lo hi none p2) pos) (tSl r te tl th):=by
 intro pins s σ H Q I h;refine Subscript_ (thn (he pins s σ H _ I h) fun v s1 ⟨x,H1,I1,r1,q1⟩=>?_);refine wpAny_Slice (thn (hl pins s1 σ H1 _ I1 q1) fun vl s2 ⟨l,H2,I2,pl,q2⟩=>thn (hu pins s2 σ H2 _ I2 q2) fun vu s3 ⟨u,H3,I3,pu,q3⟩=>?_);rw [kn];refine yx ?_;have I4:Inv X pins σ H3 { s3 with heap:=s3.heap.push { cls:=.type "slice",data:=.fields #[vl,vu,.none] } }:=I3.kept (t':=s3.toks) fun b ob q=>yw _ q;obtain ⟨T,id,hT,ht,hg⟩:=hr pins { s3 with heap:=s3.heap.push { cls:=.type "slice",data:=.fields #[vl,vu,.none] } } σ H3 x v vl vu l u s3.heap.objs.size Q I4 r1 (Xv ..) pl pu q3;show wpAny (model X.prog X.w) X.A (subscriptTail e (.Slice lo hi none p2) v (.ref s3.heap.objs.size)) (EP X pins σ Q) X.xe { s3 with heap:=s3.heap.push { cls:=.type "slice",data:=.fields #[vl,vu,.none] } };exact tail_any (ops:=[.ref s3.heap.objs.size,v]) ht hT hg (by with_unfolding_all rfl)
noncomputable def qb0 (xs:List V) (lo hi:Option Int):List V:=(xs.drop (HT.sIx xs.length 0 lo)).take (HT.sIx xs.length xs.length hi - HT.sIx xs.length 0 lo)
theorem qbq (xs:List V) (lo hi:Option Int):(qb0 xs lo hi).length<=xs.length:=by
 unfold qb0;rw [yL,Xl];omega
inductive rSlT (K:yg) (x:V) (lo:Option Int) (hi:Option Int) (H:Hp) (Q:VK):Prop|mk (a xs:_) (_:x=.ref a) (_:SqT K H a xs) (_:¬ (HT.sIx xs.length 0 lo=0/\HT.sIx xs.length xs.length hi=xs.length)) (_:∀ p,H p=none->Q (.ref p) (upd H p (.tup (qb0 xs lo hi))))
theorem sl_tup:SlR X (rSlT X.K):=by
 intro pins s σ H x v vl vu lo hi sl Q I rx hs pl pu h;obtain ⟨a,xs,rfl,hx,hw,q⟩:=h;cases rx;obtain ⟨its,r,ht,hz⟩:=I.tuple hx;have hlen:its.toArray.size=xs.length:=by rw [yv];exact r.length.symm
 refine ⟨"tuple",_,xG.lookup,ht.typeIs,?_⟩;refine HT.getItem_tuple_cut ht hs pl pu (by rw [hlen];exact hw) ?_ (by rw [hlen];exact hz);rw [hlen];refine ⟨.ref s.heap.objs.size,_,I.laid (t':=s.toks) (o:=.tup (qb0 xs lo hi)) (fun b ob q=>yw _ q) (yh _) ?_,rfl,q _ (I.hok.fresh (yh _))⟩;exact ⟨yi (qbq xs lo hi) hz,_,(r.drop (HT.sIx xs.length 0 lo)).take (HT.sIx xs.length xs.length hi - HT.sIx xs.length 0 lo),IsTup.new _ _⟩
inductive rLtT (K:yg) (x:V) (y:V) (H:Hp) (Q:VK):Prop|mk (a b ns ms:_) (_:x=.ref a) (_:y=.ref b) (_:SqT K H a (ns.map V.int)) (_:SqT K H b (ms.map V.int)) (_:Q (.bl (HT.lexLt ns ms)) H)
inductive rCatT (K:yg) (x:V) (y:V) (H:Hp) (Q:VK):Prop|mk (a b xs ys:_) (_:x=.ref a) (_:y=.ref b) (_:SqT K H a xs) (_:SqT K H b ys) (_:xs≠[]) (_:xs.length + ys.length<=sizeLine) (_:(ys=[]->Q (.ref a) H)) (_:(ys≠[]->∀ p,H p=none->Q (.ref p) (upd H p (.tup (xs++ys)))))
theorem Vals.nil_iff (r:Vals xs us):us=[]↔xs=[]:=by
 cases r with
 | nil=>simp
 | cons _ _=>simp
theorem op_catT:OpR X (binaryOp .Add) (rCatT X.K):=by
 intro pins s σ H x y v u Q I rx ry h;obtain ⟨a,b,xs,ys,rfl,rfl,ha,hb,hx,hz,q1,q2⟩:=h;cases rx;cases ry;obtain ⟨its,r1,p1,_⟩:=I.tuple ha;obtain ⟨its2,r2,p2,_⟩:=I.tuple hb;refine HT.cat_tup p1 p2 (fun z=>hx (r1.nil_iff.mp z)) (fun z=>⟨.ref a,H,I,rfl,q1 (r2.nil_iff.mp z)⟩) (fun z=>?_) (by rw [<- r1.length,<- r2.length];exact hz);refine ⟨.ref s.heap.objs.size,_,I.laid (t':=s.toks) (o:=.tup (xs++ys)) (fun b ob q=>yw _ q) (yh _) ?_,rfl,q2 (fun w=>z (r2.nil_iff.mpr w)) _ (I.hok.fresh (yh _))⟩;exact ⟨by rw [yt];exact hz,_,r1.append r2,IsTup.new _ _⟩
end
noncomputable def ixN (n:Nat) (i:Int):Option Nat:=if 0<=i then (if i < n then some i.toNat else none) else if -(n:Int)<=i then some (i + n).toNat else none
noncomputable def atI {α:Type} (xs:List α) (i:Int):Option α:=(ixN xs.length i).bind fun j=>xs[j]?
theorem qcZ (h:ixN n i=some j):seqIndex? i n=some j/\j < n/\-(n:Int)<=i/\i < n:=by
 unfold ixN at h;by_cases h0:0<=i
 ·rw [yF h0] at h;by_cases h1:i < n
  ·rw [yF h1] at h;have e:i.toNat=j:=ym h;exact ⟨by rw [seqIndex_of h0 h1,e],by omega,by omega,h1⟩
  ·rw [yC h1] at h;cases h
 ·rw [yC h0] at h;by_cases h1:-(n:Int)<=i
  ·rw [yF h1] at h;have e:(i + n).toNat=j:=ym h;exact ⟨by rw [seqIndex_neg (by omega) h1,e],by omega,h1,by omega⟩
  ·rw [yC h1] at h;cases h
theorem qc0 {xs:List α} {v:α} (h:atI xs i=some v):∃ j,seqIndex? i xs.length=some j/\xs[j]?=some v/\j < xs.length/\-(xs.length:Int)<=i/\i < xs.length:=by
 unfold atI at h
 cases e:ixN xs.length i with
 | none=>rw [e] at h;cases h
 | some j =>
  rw [e] at h;obtain ⟨h1,h2,h3,h4⟩:=qcZ e;exact ⟨j,h1,h,h2,h3,h4⟩
theorem qy {xs:List α} {v:α} (h:xs[j]?=some v):atI xs (j:Int)=some v:=by
 have hj:j < xs.length:=(yc.mp h).1
 have e:ixN xs.length (j:Int)=some j:=by
  unfold ixN;rw [yF (by omega),yF (by omega)];simp
 unfold atI;rw [e];exact h
theorem atI_last (xs:List α) (v:α):atI (xs++[v]) (-1)=some v:=by
 have hl:(xs++[v]).length=xs.length + 1:=by simp
 have e:ixN (xs++[v]).length (-1)=some xs.length:=by
  unfold ixN;rw [hl,yC (by decide),yF (by omega)]
  congr 1
  omega
 unfold atI;rw [e];show (xs++[v])[xs.length]?=some v;simp
noncomputable def PlainIx (b:Expr):Prop:=∀ o i,subscripted b false o i=operate [o,i] (getItem o i)
noncomputable def IxR (X:Cx) (r:R2):Prop:=
 ∀ (value slice:Expr) (pins:List (Addr×Obj)) (s:Shared) (σ:St) (H:Hp) (x y:V) (v u:Value) (Q:VK),Inv X pins σ H s->RelV x v->RelV y u->r x y H Q ->
  subscripted slice false v u=operate [v,u] (getItem v u)->wpAny (model X.prog X.w) X.A (subscriptTail value slice v u) (EP X pins σ Q) X.xe s
noncomputable def MtR (X:Cx) (id:String) (r:V->List V->Hp->VK->Prop):Prop:=
 ∀ (pins:List (Addr×Obj)) (s:Shared) (σ:St) (H:Hp) (x:V) (xs:List V) (v:Value) (us:List Value) (Q:VK),Inv X pins σ H s->RelV x v->Vals xs us->r x xs H Q ->
  wpAny (model X.prog X.w) X.A (call (.builtin id) (v::us)) (EP X pins σ Q) X.xe s
section
variable {X:Cx} {a b:Expr} {ta tb:TE} {pos:Pos}
theorem IxR.or {r':R2} (h:IxR X r) (h':IxR X r'):IxR X (fun x y H Q=>r x y H Q\/r' x y H Q):=by
 intro value slice pins s σ H x y v u Q I rx ry q hs;rcases q with q | q
 ·exact h value slice pins s σ H x y v u Q I rx ry q hs
 ·exact h' value slice pins s σ H x y v u Q I rx ry q hs
theorem qr (hr:IxR X r) (ha:PE X a ta) (hb:PE X b tb) (hs:PlainIx b):PE X (.Subscript a b pos) (tOp r ta tb):=by
 intro pins s σ H Q I h;exact Subscript_ (qfS ha hb I h fun v u s2 x y H2 I2 rx ry q=>hr a b pins s2 σ H2 x y v u Q I2 rx ry q (hs _ _))
inductive rIxL (K:yg) (x:V) (y:V) (H:Hp) (Q:VK):Prop|mk (p xs i v:_) (_:x=.ref p) (_:y=.int i) (_:SqL K H p xs) (_:atI xs i=some v) (_:Q v H)
inductive rIxT (K:yg) (x:V) (y:V) (H:Hp) (Q:VK):Prop|mk (p xs i v:_) (_:x=.ref p) (_:y=.int i) (_:SqT K H p xs) (_:atI xs i=some v) (_:Q v H)
inductive rIxS (x:V) (y:V) (H:Hp) (Q:VK):Prop|mk (z i c:_) (_:x=.str z) (_:y=.int i) (_:z.length<=sizeLine) (_:atI z.cps.toList i=some c) (_:Q (.str ⟨#[c]⟩) H)
theorem ix_list:IxR X (rIxL X.K):=by
 intro value slice pins s σ H x y v u Q I rx ry h hs;obtain ⟨p,xs,i,z,rfl,rfl,hq,he,q⟩:=h;cases rx;obtain ⟨t,rfl⟩:=ry;obtain ⟨its,r,pl,hz⟩:=I.list hq;obtain ⟨j,h1,h2,h3,h4,h5⟩:=qc0 he;obtain ⟨w,ew,rw'⟩:=r.get h2;have hl:=r.length;have hn:=qbN;have fin:EP X pins σ Q w s:=⟨z,H,I,rw',q⟩;by_cases h0:0<=i
 ·have hj:i.toNat=j:=by
   rw [seqIndex_of h0 h5] at h1;exact ym h1
  exact item_listR pl.isList h0 (by omega) (by rw [hj];simpa using ew) fin hs
 ·have hj:(i + (its.toArray.size:Int)).toNat=j:=by
   rw [seqIndex_neg (by omega) h4] at h1;rw [yv,<- hl];exact ym h1
  exact subscriptTail_builtinR (x:=w) pl.isList.typeIs Xd.lookup
   (wpAny_getItem_list_neg (Q:=fun r s'=>r=w/\EP X pins σ Q r s') pl.isList (by omega) (by rw [yv]<;>omega) (by omega) (by rw [hj];simpa using ew) ⟨rfl,fin⟩) hs
theorem ix_tup:IxR X (rIxT X.K):=by
 intro value slice pins s σ H x y v u Q I rx ry h hs;obtain ⟨p,xs,i,z,rfl,rfl,hq,he,q⟩:=h;cases rx;obtain ⟨t,rfl⟩:=ry;obtain ⟨its,r,pl,hz⟩:=I.tuple hq;obtain ⟨j,h1,h2,h3,h4,h5⟩:=qc0 he;obtain ⟨w,ew,rw'⟩:=r.get h2;have hl:=r.length;have hn:=qbN;have fin:EP X pins σ Q w s:=⟨z,H,I,rw',q⟩;exact subscriptTail_builtinR (x:=w) pl.typeIs slot_tuple_getitem.lookup
  (getItem_tuple (j:=j) (Q:=fun r s'=>r=w/\EP X pins σ Q r s') pl (by omega) (by omega) (by rw [yv,<- hl];exact h1) (by simpa using ew) ⟨rfl,fin⟩) hs
theorem ix_str:IxR X rIxS:=by
 intro value slice pins s σ H x y v u Q I rx ry h hs;obtain ⟨z,i,c,rfl,rfl,hz,he,q⟩:=h;obtain ⟨t,rfl⟩:=rx;obtain ⟨t',rfl⟩:=ry;obtain ⟨j,h1,h2,h3,h4,h5⟩:=qc0 he;have hl:z.cps.toList.length=z.length:=by simp [Str.length]
 rw [hl] at h1 h4 h5;have hn:=qbN
 exact tail_any (typeIs_str s z t) slot_str_getitem.lookup (getItem_str (c:=c) (by
  have e1:decide (i < -(2 ^ 63:Int))=false:=yl (by omega);have e2:decide (i ≥ 2 ^ 63)=false:=yl (by omega);rw [e1,e2,ko]) (by rw [h1];simpa using h2) ⟨.str ⟨#[c]⟩,H,I.tok _,⟨_,rfl⟩,q⟩) hs
noncomputable def rIx (K:yg):R2:=fun x y H Q=>rIxL K x y H Q\/rIxT K x y H Q\/rIxS x y H Q
theorem ix_seq:IxR X (rIx X.K):=ix_list.or (ix_tup.or ix_str)
theorem mapSeq_set (its:List Value) (n j:Nat) (u:Value):Obj.mapSeq (·.setIfInBounds j u) { cls:=.type "list",data:=.seq its.toArray n }={ cls:=.type "list",data:=.seq (its.set j u).toArray n }:=by
 simp [Obj.mapSeq]
theorem Inv.lst (I:Inv X pins σ H s) (h:H p=some (.lst xs)) :
  ∃ (its:List Value) (n:Nat),Vals xs its/\s.heap.get? p=some { cls:=.type "list",data:=.seq its.toArray n }/\xs.length<=sizeLine:=by
 obtain ⟨z,its,n,r,e⟩:=I.hok p _ h;exact ⟨its,n,r,e,z⟩
theorem Inv.lstUpd {ys:List V} {n':Nat} {f:Obj->Obj} (I:Inv X pins σ H s) (h:H p=some (.lst xs))
  (ho:s.heap.get? p=some { cls:=.type "list",data:=.seq its.toArray n }) (hf:f { cls:=.type "list",data:=.seq its.toArray n }={ cls:=.type "list",data:=.seq its'.toArray n' }) (r:Vals ys its') (hz:ys.length<=sizeLine) (t:Nat) :
  Inv X pins σ (upd H p (.lst ys)) { s with heap:=s.heap.update p f,toks:=t }:=by
 have e:(s.heap.update p f).get? p=some { cls:=.type "list",data:=.seq its'.toArray n' }:=by
  rw [YU f ho (by rw [hf]<;>rfl),hf]
 refine I.write (x:=p) (e:=p) (by rw [h];trivial) (.inl rfl) (fun b u hb q=>(Heap.get?_update_other _ _ (Yn hb)).trans q) ⟨_,e⟩ ?_;exact ⟨hz,its',n',r,e⟩
inductive rSetL (o:V) (i:V) (v:V) (H:Hp) (Q:(Hp->Prop)):Prop|mk (p xs k j:_) (_:o=.ref p) (_:i=.int k) (_:H p=some (.lst xs)) (_:ixN xs.length k=some j) (_:Q (upd H p (.lst (xs.set j v))))
theorem set_list:qfR X rSetL:=by
 intro pins s σ H o i v ov iv u Q I ro ri rv h;obtain ⟨p,xs,k,j,rfl,rfl,hp,hj,q⟩:=h;cases ro;obtain ⟨t,rfl⟩:=ri;obtain ⟨its,n,r,ho,hz⟩:=I.lst hp;obtain ⟨h1,h2,h3,h4⟩:=qcZ hj;have hl:=r.length;have hn:=qbN
 have I':Inv X pins σ (upd H p (.lst (xs.set j v))) { s with heap:=s.heap.update p (Obj.mapSeq (·.setIfInBounds j u)) }:=
  I.lstUpd hp ho (mapSeq_set its n j u) (r.set rv j) (by rw [xx];exact hz) s.toks
 by_cases h0:0<=k
 ·have hk:k.toNat=j:=by
   rw [seqIndex_of h0 h4] at h1;exact ym h1
  exact PySem.W.ki_setAt ho h0 (by omega) (by rw [yv,<- hl];exact h4) (by rw [hk];exact ⟨_,I',q⟩)
 ·have hk:(k + (its.toArray.size:Int)).toNat=j:=by
   rw [seqIndex_neg (by omega) h3] at h1;rw [yv,<- hl];exact ym h1
  exact PySem.W.ki_setBack ho (by omega) (by rw [yv,<- hl];exact h3) (by omega) (by rw [hk];exact ⟨_,I',q⟩)
theorem slice_bounds (lo hi:Option Int) (n:Nat):(sliceBounds lo hi none n).1=((HT.sIx n 0 lo:Nat):Int)/\(sliceBounds lo hi none n).2.1=((HT.sIx n n hi:Nat):Int)/\(sliceBounds lo hi none n).2.2=1:=by
 refine ⟨?_,?_,rfl⟩
 ·cases lo with
  | none=>simp [sliceBounds,HT.sIx]
  | some i =>
   simp only [sliceBounds,HT.sIx,Option.getD_none,show (1:Int) > 0 by decide,Xz];by_cases h:i < 0
   ·simp only [h,Xz]<;>omega
   ·simp only [h,XU]<;>omega
 ·cases hi with
  | none=>simp [sliceBounds,HT.sIx]
  | some i =>
   simp only [sliceBounds,HT.sIx,Option.getD_none,show (1:Int) > 0 by decide,Xz];by_cases h:i < 0
   ·simp only [h,Xz]<;>omega
   ·simp only [h,XU]<;>omega
theorem qaz (its:List Value) (lo hi:Option Int):slicePick its.toArray lo hi none=((its.drop (HT.sIx its.length 0 lo)).take (HT.sIx its.length its.length hi - HT.sIx its.length 0 lo)).toArray:=by
 obtain ⟨h1,h2,h3⟩:=slice_bounds lo hi its.toArray.size;unfold slicePick;rw [h1,h2,h3];simp only [sliceRange_one,pick_run,yv]<;>rfl
inductive rSlL (K:yg) (x:V) (lo:Option Int) (hi:Option Int) (H:Hp) (Q:VK):Prop|mk (a xs:_) (_:x=.ref a) (_:SqL K H a xs) (_:∀ p,H p=none->Q (.ref p) (upd H p (.lst (qb0 xs lo hi))))
theorem sl_list:SlR X (rSlL X.K):=by
 intro pins s σ H x v vl vu lo hi sl Q I rx hs pl pu h;obtain ⟨a,xs,rfl,hx,q⟩:=h;cases rx;obtain ⟨its,r,ht,hz⟩:=I.list hx;have hlen:=r.length;refine ⟨"list",_,Xd.lookup,ht.isList.typeIs,?_⟩;refine xD ht.isList hs pl pu .none (by simp) ?_ (by rw [yv]<;>omega);rw [qaz,<- hlen];refine ⟨.ref s.heap.objs.size,_,I.laid (t':=s.toks) (o:=.lst (qb0 xs lo hi)) (fun b ob q=>yw _ q) (yh _) ?_,rfl,q _ (I.hok.fresh (yh _))⟩;exact ⟨yi (qbq xs lo hi) hz,_,0,(r.drop (HT.sIx xs.length 0 lo)).take (HT.sIx xs.length xs.length hi - HT.sIx xs.length 0 lo),yU _ rfl⟩
noncomputable def zM:V->Bool
 | .non=>true
 | .bl _=>true
 | .int _=>true
 | .str _=>true
 | _=>false
noncomputable def eqV:V->V->Bool
 | .non,.non=>true
 | .bl a,.bl b=>a==b
 | .bl a,.int b=>(if a then 1 else 0)==b
 | .int a,.bl b=>a==(if b then 1 else 0)
 | .int a,.int b=>a==b
 | .str a,.str b=>a==b
 | _,_=>false
theorem qd0 (ry:RelV y u) (rx:RelV x v) (fy:zM y=true) (fx:zM x=true):SeqAt.EqAt A s u v (eqV y x):=by
 cases y with
 | non =>
  cases ry
  cases x with
  | non=>cases rx;exact XX _
  | bl b=>cases rx;exact SeqAt.EqAt.none_bool b
  | int b=>obtain ⟨t,rfl⟩:=rx;exact SeqAt.EqAt.none_int b t
  | str b=>obtain ⟨t,rfl⟩:=rx;exact SeqAt.EqAt.none_str b t
  | _=>exact absurd (show false=true from fx) Yl
 | bl a =>
  cases ry
  cases x with
  | non=>cases rx;exact SeqAt.EqAt.bool_none a
  | bl b=>cases rx;exact SeqAt.EqAt.bool_bool a b
  | int b=>obtain ⟨t,rfl⟩:=rx;exact SeqAt.EqAt.bool_int a b t
  | str b=>obtain ⟨t,rfl⟩:=rx;exact SeqAt.EqAt.bool_str a b t
  | _=>exact absurd (show false=true from fx) Yl
 | int a =>
  obtain ⟨t',rfl⟩:=ry
  cases x with
  | non=>cases rx;exact SeqAt.EqAt.int_none a t'
  | bl b=>cases rx;exact SeqAt.EqAt.int_bool a t' b
  | int b=>obtain ⟨t,rfl⟩:=rx;exact SeqAt.EqAt.int_int a t' b t
  | str b=>obtain ⟨t,rfl⟩:=rx;exact SeqAt.EqAt.int_str a t' b t
  | _=>exact absurd (show false=true from fx) Yl
 | str a =>
  obtain ⟨t',rfl⟩:=ry
  cases x with
  | non=>cases rx;exact SeqAt.EqAt.str_none a t'
  | bl b=>cases rx;exact SeqAt.EqAt.str_bool a t' b
  | int b=>obtain ⟨t,rfl⟩:=rx;exact SeqAt.EqAt.str_int a t' b t
  | str b=>obtain ⟨t,rfl⟩:=rx;exact SeqAt.EqAt.str_str a t' b t
  | _=>exact absurd (show false=true from fx) Yl
 | _=>exact absurd (show false=true from fy) Yl
noncomputable def eqU (x:V) (u:Value):Bool:=match u with
 | .none=>eqV .non x
 | .bool b=>eqV (.bl b) x
 | .int i _=>eqV (.int i) x
 | .str z _=>eqV (.str z) x
 | _=>false
theorem qd1 (r:RelV y u) (f:zM y=true):eqU x u=eqV y x:=by
 cases y with
 | non=>cases r;rfl
 | bl b=>cases r;rfl
 | int i=>obtain ⟨t,rfl⟩:=r;rfl
 | str z=>obtain ⟨t,rfl⟩:=r;rfl
 | _=>exact absurd (show false=true from f) Yl
theorem qbr:∀ {xs:List V} {us:List Value},Vals xs us->xs.all zM=true->us.any (eqU x)=xs.any fun y=>eqV y x
 | _,_,.nil,_=>rfl
 | y::xs,u::us,.cons r t,f=>by
  rw [XT,Ye] at f;rw [x6,x6,qd1 r f.1,qbr t f.2]
theorem qab (rx:RelV x v) (fx:zM x=true):∀ {xs:List V} {us:List Value},Vals xs us->xs.all zM=true->∀ u∈us,SeqAt.EqAt A s u v (eqU x u)
 | _,_,.nil,_=>fun u hu=>by cases hu
 | y::xs,u::us,.cons r t,f=>fun u' hu=>by
  rw [XT,Ye] at f;rcases yB.mp hu with rfl | hu
  ·rw [qd1 r f.1];exact qd0 r rx f.1 fx
  ·exact qab rx fx t f.2 u' hu
noncomputable def inV (x:V) (xs:List V):Bool:=xs.any fun y=>eqV y x
inductive rIn (K:yg) (neg:Bool) (x:V) (y:V) (H:Hp) (Q:VK):Prop|mk (p xs:_) (_:y=.ref p) (_:(SqL K H p xs\/SqT K H p xs)) (_:zM x=true) (_:xs.all zM=true) (_:Q (.bl (if neg then !inV x xs else inV x xs)) H)
theorem op_in_seq:OpR X (compareOp .In) (rIn X.K false):=by
 intro pins s σ H x y v u Q I rx ry h;obtain ⟨p,xs,rfl,hq,fx,fs,q⟩:=h;cases ry;rcases hq with hq | hq
 ·obtain ⟨its,r,pl,hz⟩:=I.list hq;refine SeqAt.in_listAt (eqU x) pl.isList (fun w hw=>qab rx fx r fs w (by simpa using hw)) ⟨.bl _,H,I,rfl,?_⟩;rw [show its.toArray.any (eqU x)=its.any (eqU x) by simp,qbr r fs];exact q
 ·obtain ⟨its,r,pl,hz⟩:=I.tuple hq;refine SeqAt.in_tupleAt (eqU x) pl (fun w hw=>qab rx fx r fs w (by simpa using hw)) ⟨.bl _,H,I,rfl,?_⟩;rw [show its.toArray.any (eqU x)=its.any (eqU x) by simp,qbr r fs];exact q
theorem op_notIn_seq:OpR X (compareOp .NotIn) (rIn X.K true):=by
 intro pins s σ H x y v u Q I rx ry h;obtain ⟨p,xs,rfl,hq,fx,fs,q⟩:=h;cases ry;rcases hq with hq | hq
 ·obtain ⟨its,r,pl,hz⟩:=I.list hq;refine SeqAt.notIn_listAt (eqU x) pl.isList (fun w hw=>qab rx fx r fs w (by simpa using hw)) ⟨.bl _,H,I,rfl,?_⟩;rw [show its.toArray.any (eqU x)=its.any (eqU x) by simp,qbr r fs];exact q
 ·obtain ⟨its,r,pl,hz⟩:=I.tuple hq;refine SeqAt.notIn_tupleAt (eqU x) pl (fun w hw=>qab rx fx r fs w (by simpa using hw)) ⟨.bl _,H,I,rfl,?_⟩;rw [show its.toArray.any (eqU x)=its.any (eqU x) by simp,qbr r fs];exact q
theorem call_len_seq:zL X (.builtin "len") (fun xs H Q=>∃ p ys,xs=[.ref p]/\(SqL X.K H p ys\/SqT X.K H p ys)/\Q (.int ys.length) H):=by
 intro pins s σ H xs us Q I r h;obtain ⟨p,ys,rfl,hq,q⟩:=h;obtain ⟨u,rfl,rx⟩:=qbZ r;cases rx;have hn:=qbN;rcases hq with hq | hq
 ·obtain ⟨its,r',pl,hz⟩:=I.list hq;have hlen:=r'.length;exact Calls.call_len_list pl.isList (by simp only [yv]<;>omega) ⟨.int ys.length,H,I.tok _,⟨s.toks + 1,by rw [yv,hlen]⟩,q⟩
 ·obtain ⟨its,r',pl,hz⟩:=I.tuple hq;have hlen:=r'.length;exact len_tuple pl (by simp only [yv]<;>omega) ⟨.int ys.length,H,I.tok _,⟨s.toks + 1,by rw [yv,hlen]⟩,q⟩
theorem call_len_str:zL X (.builtin "len") (fun xs H Q=>∃ z,xs=[.str z]/\z.length<=sizeLine/\Q (.int z.length) H):=by
 intro pins s σ H xs us Q I r h;obtain ⟨z,rfl,hz,q⟩:=h;obtain ⟨u,rfl,t,rfl⟩:=qbZ r;have hn:=qbN;exact len_str (by omega) ⟨.int z.length,H,I.tok _,⟨_,rfl⟩,q⟩
theorem call_list_of:zL X (.type "list") (fun xs H Q=>∃ p ys,xs=[.ref p]/\(SqL X.K H p ys\/SqT X.K H p ys)/\∀ l,H l=none->Q (.ref l) (upd H l (.lst ys))):=by
 intro pins s σ H xs us Q I r h;obtain ⟨p,ys,rfl,hq,q⟩:=h;obtain ⟨u,rfl,rx⟩:=qbZ r;cases rx;have fin:∀ (its:List Value),Vals ys its->ys.length<=sizeLine->∀ (h':Heap) (c':Nat),(∀ b o',s.heap.get? b=some o'->h'.get? b=some o') ->
   h'.get? s.heap.objs.size=some { cls:=.type "list",dict:=none,data:=.seq its.toArray c',slots:=#[] }->EP X pins σ Q (.ref s.heap.objs.size) { s with heap:=h' }:=fun its r' hz h' c' kp e =>
  ⟨.ref s.heap.objs.size,_,I.laid (t':=s.toks) kp (yh _) (show ObjOk X.prog X.w _ h' _ (.lst ys) from ⟨hz,its,c',r',e⟩),rfl,q _ (I.hok.fresh (yh _))⟩
 rcases hq with hq | hq
 ·obtain ⟨its,r',pl,hz⟩:=I.list hq;have hlen:=r'.length;obtain ⟨o,ho,hc,n,hd⟩:=pl.isList;exact call_list_seq p (.inl rfl) ho hc hd (fun h' c' kp e=>fin its r' hz h' c' kp e) (by simp only [yv]<;>omega)
 ·obtain ⟨its,r',pl,hz⟩:=I.tuple hq;have hlen:=r'.length;obtain ⟨o,ho,hc,n,hd⟩:=pl;exact call_list_seq p (.inr rfl) ho hc hd (fun h' c' kp e=>fin its r' hz h' c' kp e) (by simp only [yv]<;>omega)
noncomputable def tyV (K:yg) (T:String) (x:V) (H:Hp):Prop:=match x with
 | .str _=>T="str"
 | .int _=>T="int"
 | .ref p=>(T="list"/\∃ xs,SqL K H p xs)\/(T="tuple"/\∃ o,K.lookup p=some o/\o.cls=.type "tuple"/\o.dict=none) \/
   (T="dict"/\((∃ kvs,H p=some (.dK kvs))\/∃ kvs,H p=some (.dT kvs)))\/(T="set"/\∃ S n,H p=some (.set S n))
 | _=>False
theorem qeJ {T:String} (I:Inv X pins σ H s) (r:RelV x v) (ty:tyV X.K T x H) :
  s.TypeIs v T/\∀ a,v=.ref a->∃ ob,s.heap.get? a=some ob/\ob.dict=none:=by
 cases x with
 | str z =>
  obtain ⟨t,rfl⟩:=r;cases (show T="str" from ty);exact ⟨typeIs_str s z t,fun _ e=>nomatch e⟩
 | int i =>
  obtain ⟨t,rfl⟩:=r;cases (show T="int" from ty);exact ⟨typeIs_int s i t,fun _ e=>nomatch e⟩
 | ref p =>
  cases r;rcases ty with ⟨rfl,xs,hq⟩ | ⟨rfl,o,hk,hc,hd⟩ | ⟨rfl,hk⟩ | ⟨rfl,S,n,hk⟩
  ·obtain ⟨its,_,pl,_⟩:=I.list hq;refine ⟨pl.isList.typeIs,fun a e=>?_⟩;cases e;obtain ⟨o,n,e,c,hd,_⟩:=pl;exact ⟨o,e,hd⟩
  ·refine ⟨⟨o,I.kIn p o hk,hc⟩,fun a e=>?_⟩;cases e;exact ⟨o,I.kIn _ o hk,hd⟩
  ·have z:∃ o,s.heap.get? p=some o/\o.ExactDict:=by
    rcases hk with ⟨kvs,hk⟩ | ⟨kvs,hk⟩
    ·obtain ⟨_,_,_,_,o,_,_,e,ex,_⟩:=I.hok p _ hk;exact ⟨o,e,ex⟩
    ·obtain ⟨_,_,_,_,o,_,_,e,ex,_⟩:=I.hok p _ hk;exact ⟨o,e,ex⟩
   obtain ⟨o,e,ex⟩:=z;refine ⟨⟨o,e,ex.1⟩,fun a e2=>?_⟩;cases e2;exact ⟨o,e,ex.2.1⟩
  ·obtain ⟨o,_,_,_,e,ex,_⟩:=I.hok p _ hk;refine ⟨⟨o,e,ex.1⟩,fun a e2=>?_⟩;cases e2;exact ⟨o,e,ex.2.1⟩
 | _=>exact False.elim ty
noncomputable def qfU (K:yg) (T:String) (r:V->List V->Hp->VK->Prop) (to:TE):TE:=fun σ H Q=>to σ H fun x H1=>tyV K T x H1/\r x [] H1 Q
noncomputable def tBM (K:yg) (T:String) (r:V->List V->Hp->VK->Prop) (to:TE) (t:TA):TE:=fun σ H Q=>to σ H fun x H1=>tyV K T x H1/\t σ H1 fun xs H2=>r x xs H2 Q
variable {o e:Expr} {es:List Expr} {to:TE} {t:TA} {name:Str} {apos cpos:Pos} {T id:String} {r:V->List V->Hp->VK->Prop}
theorem pe_bm0 (pa:PlainAttrs T) (slot:Slot T name id) (hty:typeOf (.builtin id)=pure (.type "method_descriptor")) (hm:MtR X id r) (ho:PE X o to)
  (hbase:attributeBase o name X.env (eval o X.env)=eval o X.env:=by rfl) (hline:(apos.endLine==cpos.line)=true:=by rfl):PE X (.Call (.Attribute o name apos) [] [] cpos) (qfU X.K T r to):=by
 intro pins s σ H Q I h;refine wpAny_Call_method0_late hbase hline (thn (ho pins s σ H _ I h) fun v s1 ⟨x,H1,I1,r1,ty,q1⟩=>?_);obtain ⟨h1,h2⟩:=qeJ I1 r1 ty;exact ⟨T,id,pa,slot,hty,h1,h2,XA rfl (PySem.evalArgs_none (hm pins s1 σ H1 x [] v [] Q I1 r1 .nil q1))⟩
theorem pe_bm (pa:PlainAttrs T) (slot:Slot T name id) (hty:typeOf (.builtin id)=pure (.type "method_descriptor")) (hm:MtR X id r) (ho:PE X o to) (ha:PA X (e::es) t)
  (hbase:attributeBase o name X.env (eval o X.env)=eval o X.env:=by rfl)
  (hfew:((backTo cpos (starEach (e::es) X.env)).all (fun x=>!x.1)&&(backToKw cpos (keywordEach [] X.env)).all (fun x=>x.1.isSome)
   && decide ((e::es).length + ([]:List Keyword).length + (if ([]:List Keyword).isEmpty then 0 else 1) < 30))=true:=by rfl)
  (hline:(apos.endLine==cpos.line)=true:=by rfl) (hs:starEach (e::es) X.env=(false,eval e X.env)::starEach es X.env:=by rfl) (hplain:(backTo cpos (starEach es X.env)).any (·.1)=false:=by rfl) :
  PE X (.Call (.Attribute o name apos) (e::es) [] cpos) (tBM X.K T r to t):=by
 intro pins s σ H Q I h;refine wpAny_Call_method_late hbase hfew hline rfl (thn (ho pins s σ H _ I h) fun v s1 ⟨x,H1,I1,r1,ty,q1⟩=>?_);obtain ⟨h1,h2⟩:=qeJ I1 r1 ty;refine ⟨T,id,pa,slot,hty,h1,h2,?_⟩;have hA:=ha cpos pins s1 σ H1 _ I1 q1;rw [hs] at hA ⊢;refine XA (by show (false||(backTo cpos (starEach es X.env)).any (·.1))=false;rw [hplain]<;>rfl) (Calls.evalArgs_plain ?_);exact thn hA fun us s2 ⟨vs,H2,I2,r2,q2⟩=>hm pins s2 σ H2 x vs v us Q I2 r1 r2 q2
end
noncomputable def MtM (X:Cx) (id:String) (r:V->List V->Hp->VK->Prop):Prop:=
 ∀ (pins:List (Addr×Obj)) (s:Shared) (σ:St) (H:Hp) (x:V) (xs:List V) (v:Value) (us:List Value) (Q:VK),Inv X pins σ H s->RelV x v->Vals xs us->r x xs H Q ->
  wpAny (model X.prog X.w) X.A (call (.builtin id) (v::us)) (EP X pins σ Q) X.xe s
theorem Vals.one:∀ {x:V} {us:List Value},Vals [x] us->∃ u,us=[u]/\RelV x u
 | _,_,.cons r .nil=>⟨_,rfl,r⟩
theorem Vals.zero:∀ {us:List Value},Vals [] us->us=[]
 | _,.nil=>rfl
theorem Vals.dropLast (h:Vals xs us):Vals xs.dropLast us.dropLast:=by
 induction h with
 | nil=>exact .nil
 | cons r t ih =>
  cases t with
  | nil=>exact .nil
  | cons q t'=>exact .cons r ih
theorem Vals.eraseIdx:∀ {xs:List V} {us:List Value} (i:Nat),Vals xs us->Vals (xs.eraseIdx i) (us.eraseIdx i)
 | _,_,_,.nil=>.nil
 | _,_,0,.cons _ t=>t
 | _,_,i + 1,.cons r t=>.cons r (Vals.eraseIdx i t)
theorem Vals.rep (h:Vals xs us):∀ k:Nat,Vals (List.replicate k xs).flatten (List.replicate k us).flatten
 | 0=>.nil
 | k + 1=>by
  rw [xk,xk,Xe,Xe];exact Vals.append h (Vals.rep h k)
theorem erase_last (l:List α):l.eraseIdx (l.length - 1)=l.dropLast:=by
 induction l with
 | nil=>rfl
 | cons a r ih =>
  cases r with
  | nil=>rfl
  | cons b r =>
   have e:(a::b::r).length - 1=((b::r).length - 1) + 1:=by
    have h1:(a::b::r).length=r.length + 2:=rfl;have h2:(b::r).length=r.length + 1:=rfl;omega
   rw [e,List.eraseIdx_cons_succ,ih]
   all_goals rfl
theorem qcs:∀ (l:List α) (i:Nat),(l.eraseIdx i).length<=l.length
 | [],_=>yh _
 | _::_,0=>Xg _
 | _::r,i + 1=>Nat.succ_le_succ (qcs r i)
theorem qct (its:List Value):∀ (k:Nat) (acc:List Value),
  List.foldl (fun x1 x2=>x1++x2) acc.toArray (List.replicate k its.toArray)=(acc++(List.replicate k its).flatten).toArray
 | 0,acc=>by simp
 | k + 1,acc=>by
  have e:acc.toArray++its.toArray=(acc++its).toArray:=by simp
  have e2:(acc++its)++(List.replicate k its).flatten=acc++(List.replicate (k + 1) its).flatten:=by
   rw [xk,Xe,Yj]
  rw [<- e2,<- qct its k (acc++its),<- e,xk,List.foldl_cons]
section
variable {X:Cx} {pins:List (Addr×Obj)} {σ:St} {H:Hp} {s:Shared} {l b:Addr} {xs ys zs:List V}
theorem Inv.lset {f:Array Value->Array Value} (I:Inv X pins σ H s) (hH:H l=some (.lst xs))
  (e:s.heap.get? l=some { cls:=.type "list",data:=.seq its.toArray n }) (hf:f its.toArray=its'.toArray) (hv:Vals ys its') (hz:ys.length<=sizeLine) :
  Inv X pins σ (upd H l (.lst ys)) { s with heap:=s.heap.update l (Obj.mapSeq f),toks:=t' }:=by
 have q:=PySem.IsL.update e f;rw [hf] at q;refine I.write (x:=l) (e:=l) (by rw [hH];exact trivial) (.inl rfl) (fun b' u hb hu=>(Heap.get?_update_other s.heap (Obj.mapSeq f) (Yn hb)).trans hu) ⟨_,q⟩ ?_;exact ⟨hz,its',_,hv,q⟩
theorem Inv.lnew (I:Inv X pins σ H s) (hv:Vals ys its) (hz:ys.length<=sizeLine) :
  Inv X pins σ (upd H s.heap.objs.size (.lst ys)) { s with heap:=s.heap.push { cls:=.type "list",data:=.seq its.toArray },toks:=t' }:=
 I.laid (fun _ _ q=>yw _ q) (yh _) ⟨hz,its,0,hv,yU _ rfl⟩
theorem Inv.fresh (I:Inv X pins σ H s):H s.heap.objs.size=none:=I.hok.fresh (yh _)
theorem Inv.lstM (I:Inv X pins σ H s) (hH:H l=some (.lst xs)):xs.length<=sizeLine/\∃ (its:List Value) (n:Nat),Vals xs its/\xs.length=its.length/\s.heap.get? l=some { cls:=.type "list",data:=.seq its.toArray n }:=by
 obtain ⟨z,its,n,r,e⟩:=I.hok l _ hH;exact ⟨z,its,n,r,r.length,e⟩
theorem qdr (h:n<=sizeLine):Builtin.List.listTooLong n=false:=by
 unfold Builtin.List.listTooLong;exact yl (by omega)
end
section
variable {X:Cx}
inductive rAppend (x:V) (vs:List V) (H:Hp) (Q:VK):Prop|mk (l xs y:_) (_:x=.ref l) (_:vs=[y]) (_:H l=some (.lst xs)) (_:xs.length < sizeLine) (_:Q .non (upd H l (.lst (xs++[y]))))
theorem mt_append:MtM X "list.append" rAppend:=by
 intro pins s σ H x vs v us Q I rx rv h;obtain ⟨l,xs,y,rfl,rfl,hH,hz,q⟩:=h;cases rx;obtain ⟨u,rfl,ru⟩:=rv.one;obtain ⟨z,its,n,r,hl,e⟩:=I.lstM hH;refine XM F.slot_list_append ⟨_,e,rfl⟩ F.entry_list_append (F.args_list_append_2 _ _) (PySem.list_append l its.toArray n u (by rw [yv];omega)) ⟨e,?_⟩;refine ⟨.non,_,I.lset (its':=its++[u]) hH e (by simp) (r.append (.cons ru .nil)) ?_,rfl,q⟩;rw [yt,List.length_singleton];omega
inductive rExtend (x:V) (vs:List V) (H:Hp) (Q:VK):Prop|mk (l b xs zs:_) (_:x=.ref l) (_:vs=[.ref b]) (_:H l=some (.lst xs)) (_:H b=some (.lst zs)) (_:xs.length + zs.length<=sizeLine) (_:Q .non (upd H l (.lst (xs++zs))))
theorem mt_extend:MtM X "list.extend" rExtend:=by
 intro pins s σ H x vs v us Q I rx rv h;obtain ⟨l,b,xs,zs,rfl,rfl,hH,hB,hz,q⟩:=h;cases rx;obtain ⟨u,rfl,ru⟩:=rv.one;cases ru;obtain ⟨z,its,n,r,hl,e⟩:=I.lstM hH;obtain ⟨z2,its2,n2,r2,hl2,e2⟩:=I.lstM hB;have hsz:its.toArray.size + its2.toArray.size<=sizeLine:=by rw [yv,yv];omega
 have hlong:¬ (!its.toArray.isEmpty&&Builtin.List.listTooLong (its.toArray.size + its2.toArray.size))=true:=by
  rw [qdr hsz,Bool.and_false];exact Yl
 refine XM F.slot_list_extend ⟨_,e,rfl⟩ F.entry_list_extend (F.args_list_extend_2 _ _)
  (AutoSeq1.list_extend_list_list_0 l its.toArray n b its2.toArray n2 hlong (by rw [yv];omega) (by omega)) ⟨e,e2,?_⟩
 refine ⟨.non,_,I.lset (its':=its++its2) hH e (by simp) (r.append r2) ?_,rfl,q⟩;rw [yt];omega
inductive rPop (x:V) (vs:List V) (H:Hp) (Q:VK):Prop|mk (l xs y:_) (_:x=.ref l) (_:vs=[]) (_:H l=some (.lst xs)) (_:xs[xs.length - 1]?=some y) (_:Q y (upd H l (.lst xs.dropLast)))
theorem mt_pop:MtM X "list.pop" rPop:=by
 intro pins s σ H x vs v us Q I rx rv h;obtain ⟨l,xs,y,rfl,rfl,hH,hy,q⟩:=h;cases rx;have hus:=rv.zero;subst hus;obtain ⟨z,its,n,r,hl,e⟩:=I.lstM hH;obtain ⟨u,hu,ru⟩:=r.get hy
 have hy':its.toArray[its.toArray.size - 1]?=some u:=by
  show its.toArray[its.length - 1]?=some u;rw [<- xt,<- hl];exact hu
 refine XM F.slot_list_pop ⟨_,e,rfl⟩ F.entry_list_pop (F.args_list_pop_1 _) (MeetsSeq.list_pop_last l its.toArray n u hy' (by rw [yv];omega)) ⟨e,?_⟩;refine ⟨y,_,I.lset (its':=its.dropLast) hH e ?_ r.dropLast ?_,ru,q⟩
 ·show its.toArray.eraseIdxIfInBounds (its.toArray.size - 1)=its.dropLast.toArray;rw [yv,List.eraseIdxIfInBounds_toArray,erase_last]
 ·rw [List.length_dropLast];omega
inductive rPopAt (x:V) (vs:List V) (H:Hp) (Q:VK):Prop|mk (l xs i k y:_) (_:x=.ref l) (_:vs=[.int i]) (_:H l=some (.lst xs)) (_:-(2 ^ 63)<=i) (_:i < 2 ^ 63) (_:seqIndex? i xs.length=some k) (_:xs[k]?=some y) (_:Q y (upd H l (.lst (xs.eraseIdx k))))
theorem mt_popAt:MtM X "list.pop" rPopAt:=by
 intro pins s σ H x vs v us Q I rx rv h;obtain ⟨l,xs,i,k,y,rfl,rfl,hH,h1,h2,hk,hy,q⟩:=h;cases rx;obtain ⟨u,rfl,ru⟩:=rv.one;obtain ⟨t,rfl⟩:=ru;obtain ⟨z,its,n,r,hl,e⟩:=I.lstM hH;obtain ⟨w,hw,rw'⟩:=r.get hy;refine XM F.slot_list_pop ⟨_,e,rfl⟩ F.entry_list_pop (F.args_list_pop_2 _ _)
  (MeetsSeq.list_pop_at l its.toArray n i t k w (fitsIndex_both h1 h2) (by rw [yv,<- hl];exact hk) (by rw [<- xt];exact hw) (by rw [yv];omega)) ⟨e,?_⟩
 refine ⟨y,_,I.lset (its':=its.eraseIdx k) hH e ?_ (r.eraseIdx k) ?_,rw',q⟩
 ·show its.toArray.eraseIdxIfInBounds k=(its.eraseIdx k).toArray;rw [List.eraseIdxIfInBounds_toArray]
 ·have:=qcs xs k;omega
inductive rReverse (x:V) (vs:List V) (H:Hp) (Q:VK):Prop|mk (l xs:_) (_:x=.ref l) (_:vs=[]) (_:H l=some (.lst xs)) (_:Q .non (upd H l (.lst xs.reverse)))
inductive rClear (x:V) (vs:List V) (H:Hp) (Q:VK):Prop|mk (l xs:_) (_:x=.ref l) (_:vs=[]) (_:H l=some (.lst xs)) (_:Q .non (upd H l (.lst [])))
inductive rCat (x:V) (y:V) (H:Hp) (Q:VK):Prop|mk (l b xs zs:_) (_:x=.ref l) (_:y=.ref b) (_:H l=some (.lst xs)) (_:H b=some (.lst zs)) (_:xs.length + zs.length<=sizeLine) (_:∀ p,H p=none->Q (.ref p) (upd H p (.lst (xs++zs))))
theorem op_cat:OpR X (binaryOp .Add) rCat:=by
 intro pins s σ H x y v u Q I rx ry h;obtain ⟨l,b,xs,zs,rfl,rfl,hH,hB,hz,q⟩:=h;cases rx;cases ry;obtain ⟨z,its,n,r,hl,e⟩:=I.lstM hH;obtain ⟨z2,its2,n2,r2,hl2,e2⟩:=I.lstM hB;refine PySem.P.add_list e e2 ?_ (by rw [yv,yv];omega);have ea:its.toArray++its2.toArray=(its++its2).toArray:=by simp
 rw [ea];exact ⟨.ref _,_,I.lnew (t':=s.toks) (r.append r2) (by rw [yt];omega),rfl,q _ I.fresh⟩
inductive rRep (x:V) (y:V) (H:Hp) (Q:VK):Prop|mk (l k xs:_) (_:x=.ref l) (_:y=.int k) (_:H l=some (.lst xs)) (_:-(2 ^ 63)<=k) (_:k < 2 ^ 63) (_:xs.length * k.toNat<=sizeLine) (_:∀ p,H p=none->Q (.ref p) (upd H p (.lst (List.replicate k.toNat xs).flatten)))
theorem len_rep (xs:List α) (k:Nat):(List.replicate k xs).flatten.length=k * xs.length:=by
 induction k with
 | zero=>simp
 | succ k ih=>rw [xk,Xe,yt,ih,Nat.succ_mul,Nat.add_comm]
theorem qd2:OpR X (binaryOp .Mult) rRep:=by
 intro pins s σ H x y v u Q I rx ry h;obtain ⟨l,k,xs,rfl,rfl,hH,h1,h2,hz,q⟩:=h;cases rx;obtain ⟨t,rfl⟩:=ry;obtain ⟨z,its,n,r,hl,e⟩:=I.lstM hH;have hlen:its.toArray.size * k.toNat<=sizeLine:=by rw [yv,<- hl];exact hz
 have hcap:¬ its.toArray.size * k.toNat > (2 ^ 63 - 1) / 8:=by
  have:(sizeLine:Nat)<=(2 ^ 63 - 1) / 8:=by decide
  omega
 have hfit:¬ (!Builtin.List.listFitsIndex k)=true:=by
  rw [fitsIndex_both h1 h2];exact Yl
 have hlong:¬ Builtin.List.listTooLong (its.toArray.size * k.toNat)=true:=by
  rw [qdr hlen];exact Yl
 have hnew:List.foldl (fun x1 x2=>x1++x2) #[] (List.replicate (if its.toArray.isEmpty=true then 0 else k.toNat) its.toArray)=(List.replicate k.toNat its).flatten.toArray:=by
  have f0:∀ m:Nat,List.foldl (fun x1 x2=>x1++x2) #[] (List.replicate m its.toArray)=(List.replicate m its).flatten.toArray:=fun m=>by
   have:=qct its m [];rw [List.nil_append] at this;exact this
  rw [f0]
  cases its with
  | nil=>simp
  | cons a r'=>rw [yC (by simp)]
 refine wpAny_binaryOp_repeat_ref (T:="list") (U:="int") (by decide) ⟨_,e,rfl⟩ (fun s'=>typeIs_int s' k t) noFill_list_mul F.fills_int_mul F.slot_int_rmul repeat_list F.slot_int_index.lookup
  (XM F.slot_int_rmul (typeIs_int s k t) F.entry_int_rmul (F.args_int_rmul_2 _ _) (int___rmul___int_list k t l its.toArray n)
   ⟨e,rfl,⟨_,e,rfl⟩,XM F.slot_list_mul ⟨_,e,rfl⟩ F.entry_list_mul (F.args_list_mul_2 _ _) (AutoListH.list___mul___list_int_3 l its.toArray n k t hfit hcap hlong) ⟨e,?_⟩⟩)
 rw [hnew];exact ⟨.ref _,_,I.lnew (t':=s.toks) (r.rep k.toNat) (by rw [len_rep,Nat.mul_comm];exact hz),rfl,q _ I.fresh⟩
end
section
variable {prog:Program} {w:World} {A:Around} {E:Value->Shared->Prop} {s:Shared}
set_option maxRecDepth 100000 in
end
section
variable {X:Cx}
end
section
variable {κ:Type} [DecidableEq κ]
noncomputable def jS (kvs:List (κ×V)) (k:κ):Option V:=(kvs.find? fun kv=>decide (kv.1=k)).map (·.2)
noncomputable def zD (kvs:List (κ×V)) (k:κ) (v:V):List (κ×V):=
 if (kvs.any fun kv=>decide (kv.1=k))=true then kvs.map (fun kv=>if kv.1=k then (kv.1,v) else kv) else kvs++[(k,v)]
noncomputable def dropK (kvs:List (κ×V)) (k:κ):List (κ×V):=kvs.filter fun kv=>decide (kv.1≠k)
theorem jl {p:κ×V} {r:List (κ×V)} {k:κ} (e:p.1=k):jS (p::r) k=some p.2:=by simp [jS,xy,e]
theorem q8 {p:κ×V} {r:List (κ×V)} {k:κ} (e:¬ p.1=k):jS (p::r) k=jS r k:=by simp [jS,xy,e]
theorem qac (k:κ):∀ kvs:List (κ×V),(kvs.any fun kv=>decide (kv.1=k))=(jS kvs k).isSome
 | []=>rfl
 | p::r=>by
  rw [x6];by_cases e:p.1=k
  ·simp only [jl e,yG e,Bool.true_or,Option.isSome_some]
  ·rw [q8 e,yl e,Bool.false_or];exact qac k r
theorem qds (k j:κ) (y:V):∀ kvs:List (κ×V),jS (kvs.map fun kv=>if kv.1=k then (kv.1,y) else kv) j=(jS kvs j).map fun x=>if j=k then y else x
 | []=>rfl
 | p::r=>by
  have ih:=qds k j y r;rw [Yy];by_cases h:p.1=k
  ·rw [yF h];by_cases e:p.1=j
   ·rw [jl (p:=(p.1,y)) e,jl e,XY,yF (e.symm.trans h)]
   ·rw [q8 (p:=(p.1,y)) e,q8 e,ih]
  ·rw [yC h];by_cases e:p.1=j
   ·rw [jl (p:=p) e,jl e,XY,yC (fun z=>h (e.trans z))]
   ·rw [q8 (p:=p) e,q8 e,ih]
theorem qcu (k j:κ) (y:V):∀ kvs:List (κ×V),jS kvs k=none->jS (kvs++[(k,y)]) j=if j=k then some y else jS kvs j
 | [],_=>by
  by_cases e:k=j
  ·rw [yF e.symm];exact jl (p:=(k,y)) e
  ·rw [yC (fun z=>e z.symm)];exact q8 (p:=(k,y)) e
 | p::r,hn=>by
  rw [kz];have hk:¬ p.1=k:=fun z=>by rw [jl z] at hn;cases hn
  rw [q8 hk] at hn;have ih:=qcu k j y r hn;by_cases e:p.1=j
  ·rw [jl e,jl e,yC (fun z=>hk (e.trans z))]
  ·rw [q8 e,q8 e,ih]
theorem qad (kvs:List (κ×V)) (k j:κ) (y:V):jS (zD kvs k y) j=if j=k then some y else jS kvs j:=by
 unfold zD;by_cases a:(kvs.any fun kv=>decide (kv.1=k))=true
 ·rw [yF a,qds];rw [qac] at a;by_cases e:j=k
  ·obtain ⟨x,hx⟩:=Y1.mp a;rw [yF e,e,hx,XY,yF rfl]
  ·rw [yC e]
   cases jS kvs j with
   | none=>rfl
   | some x=>rw [XY,yC e]
 ·rw [yC a];refine qcu k j y kvs ?_;rw [qac] at a
  cases q:jS kvs k with
  | none=>rfl
  | some x=>rw [q] at a;exact (a rfl).elim
theorem jm (kvs:List (κ×V)) (k:κ) (v:V):(zD kvs k v).length<=kvs.length + 1:=by
 unfold zD;split
 ·rw [ya];omega
 ·rw [yt,yA,YM];omega
theorem qa5 {kvs:List (κ×V)} {k:κ} (v:V) (h:jS kvs k=none):zD kvs k v=kvs++[(k,v)]:=by
 unfold zD;rw [qac,h];exact yC (by decide)
theorem RelO.isSome_eq {u:Option Value} (r:RelO o u):o.isSome=u.isSome:=by
 cases o with
 | none=>cases u with
  | none=>rfl
  | some _=>exact (show False from r).elim
 | some _=>cases u with
  | none=>exact (show False from r).elim
  | some _=>rfl
theorem RelO.getD {u:Option Value} {d:V} {d':Value} (r:RelO o u) (rd:RelV d d'):RelV (o.getD d) (u.getD d'):=by
 cases o with
 | none=>cases u with
  | none=>exact rd
  | some _=>exact (show False from r).elim
 | some _=>cases u with
  | none=>exact (show False from r).elim
  | some _=>exact r
theorem KV.val {kvs:List (κ×V)} {vs:List (κ×Value)} (r:KV kvs vs) (k:κ):RelO (jS kvs k) (valueAt vs k):=by
 unfold KV at r
 induction r with
 | nil=>exact YQ
 | @cons p q ps qs h t ih =>
  obtain ⟨h1,h2⟩:=h;by_cases e:p.1=k
  ·have e':q.1=k:=h1.symm.trans e;have b:valueAt (q::qs) k=some q.2:=by simp [valueAt,xy,e']
   rw [jl e,b];exact h2
  ·have e':¬ q.1=k:=fun z=>e (h1.trans z);have b:valueAt (q::qs) k=valueAt qs k:=by simp [valueAt,xy,e']
   rw [q8 e,b];exact ih
theorem KV.any {kvs:List (κ×V)} {vs:List (κ×Value)} (r:KV kvs vs) (k:κ):(kvs.any fun kv=>decide (kv.1=k))=vs.any fun kv=>decide (kv.1=k):=by
 unfold KV at r
 induction r with
 | nil=>rfl
 | cons h t ih=>rw [x6,x6,ih,h.1]
theorem KV.repl {kvs:List (κ×V)} {vs:List (κ×Value)} (r:KV kvs vs) (k:κ) (ry:RelV y u) :
  KV (kvs.map fun kv=>if kv.1=k then (kv.1,y) else kv) (vs.map fun kv=>if kv.1=k then (kv.1,u) else kv):=by
 unfold KV at r ⊢
 induction r with
 | nil=>exact .nil
 | @cons p q ps qs h t ih =>
  rw [Yy,Yy];refine .cons ?_ ih;obtain ⟨h1,h2⟩:=h;by_cases e:p.1=k
  ·rw [yF e,yF (h1.symm.trans e)];exact ⟨h1,ry⟩
  ·rw [yC e,yC (fun z=>e (h1.trans z))];exact ⟨h1,h2⟩
theorem KV.put {kvs:List (κ×V)} {vs:List (κ×Value)} (r:KV kvs vs) (k:κ) (ry:RelV y u):KV (zD kvs k y) (stored vs k u):=by
 unfold zD stored;rw [r.any k];by_cases e:(vs.any fun kv=>decide (kv.1=k))=true
 ·rw [yF e,yF e];exact r.repl k ry
 ·rw [yC e,yC e];exact Paired.snoc r ⟨rfl,ry⟩
theorem KV.length {kvs:List (κ×V)} {vs:List (κ×Value)} (r:KV kvs vs):kvs.length=vs.length:=Paired.length r
end
theorem qdP {k:Key} (r:RelV (kV k) u):(jr P w).is k u=true:=by
 cases k with
 | inl i=>obtain ⟨t,e⟩:=(show ∃ t,u=Value.int i t from r);subst e;exact mixKind_int P w i t
 | inr x=>obtain ⟨t,e⟩:=(show ∃ t,u=Value.str x t from r);subst e;exact mixKind_str P w x t
theorem qcv:∀ {ks:List Key} {us:List Value},Vals (ks.map kV) us->ItemsAre (jr P w) ks us
 | [],_,r=>by rw [List.map_nil] at r;cases r;exact .nil
 | k::ks,_,r=>by
  rw [Yy] at r
  cases r with
  | cons h t=>exact .cons (qdP h) (qcv t)
noncomputable abbrev KT (H:Hp):List (List Key×V)->List (List Key×Addr×Value)->Prop:=Paired fun p q=>p.1=q.1/\H q.2.1=some (.tup (p.1.map kV))/\RelV p.2 q.2.2
theorem KT.val {xs:List (List Key×Addr×Value)} (r:KT H kvs xs) (k:List Key):RelO (jS kvs k) ((atKey xs k).map (·.2)):=by
 induction r with
 | nil=>exact YQ
 | @cons p q ps qs h t ih =>
  obtain ⟨h1,_,h2⟩:=h;by_cases e:p.1=k
  ·have e':q.1=k:=h1.symm.trans e;have b:atKey (q::qs) k=some q.2:=by simp [atKey,xy,e']
   rw [jl e,b];exact h2
  ·have e':¬ q.1=k:=fun z=>e (h1.trans z);have b:atKey (q::qs) k=atKey qs k:=by simp [atKey,xy,e']
   rw [q8 e,b];exact ih
theorem KT.repl {xs:List (List Key×Addr×Value)} (r:KT H kvs xs) (k:List Key) (ry:RelV y u) :
  KT H (kvs.map fun kv=>if kv.1=k then (kv.1,y) else kv) (xs.map (putAt k u)):=by
 induction r with
 | nil=>exact .nil
 | @cons p q ps qs h t ih =>
  rw [Yy,Yy];refine .cons ?_ ih;obtain ⟨h1,h2,h3⟩:=h;unfold putAt;by_cases e:p.1=k
  ·rw [yF e,yF (h1.symm.trans e)];exact ⟨h1,h2,ry⟩
  ·rw [yC e,yC (fun z=>e (h1.trans z))];exact ⟨h1,h2,h3⟩
theorem KT.put {xs:List (List Key×Addr×Value)} (r:KT H kvs xs) (k:List Key) {b:Addr} (hb:H b=some (.tup (k.map kV))) (ry:RelV y u) :
  KT H (zD kvs k y) (storedH xs k b u):=by
 have e:(kvs.any fun kv=>decide (kv.1=k))=(atKey xs k).isSome:=by
  rw [qac,(r.val k).isSome_eq,xA]
 unfold zD storedH;rw [e];by_cases q:(atKey xs k).isSome=true
 ·rw [yF q,yF q];exact r.repl k ry
 ·rw [yC q,yC q];exact Paired.snoc r ⟨rfl,hb,ry⟩
theorem KT.keeps {xs:List (List Key×Addr×Value)} (r:KT H kvs xs) (ht:∀ b ys,H b=some (.tup ys)->H' b=some (.tup ys)):KT H' kvs xs:=
 Paired.mapP r fun _ _ z=>⟨z.1,ht _ _ z.2.1,z.2.2⟩
section
variable {P:Program} {w:World} {H:Hp} {h:Heap} {a:Addr}
theorem qfu {u:HO} (ok:HOk P w H h) (e:Rd H a u):ObjOk P w H h a u:=e.ok ok
theorem qcw {kvs:List (Key×V)} (ok:HOk P w H h) (e:Rd H a (.dK kvs)):kvs.length<=sizeLine/\(a==sysModules)=false/\∃ vs,KV kvs vs/\h.DictOf (jr P w) a vs:=
 show ObjOk P w H h a (.dK kvs) from qfu ok e
theorem dk_of {kvs:List (Key×V)} (ok:HOk P w H h) (e:H a=some (.dK kvs)):kvs.length<=sizeLine/\(a==sysModules)=false/\∃ vs,KV kvs vs/\h.DictOf (jr P w) a vs:=qcw ok (.inl e)
theorem qbQ {ks:List Key} (ok:HOk P w H h) (e:H a=some (.tup (ks.map kV))):(tupleKind (jr P w)).is h ks a:=by
 obtain ⟨_,its,r,o,h1,h2,n,h3⟩:=(show ObjOk P w H h a (.tup (ks.map kV)) from ok a _ e);exact ⟨o,its.toArray,n,h1,h2,h3,by simpa using qcv r⟩
theorem qc1 (ok:HOk P w H h) (e:Rd H a (.dT kvs)):kvs.length<=sizeLine/\(a==sysModules)=false /\
  ∃ xs,KT H kvs xs/\h.DictOfH (tupleKind (jr P w)) a xs:=by
 obtain ⟨z,y,xs,r,o,es,ep,h1,h2,h3,h4,h5⟩:=(show ObjOk P w H h a (.dT kvs) from qfu ok e);refine ⟨z,y,xs,r,o,es,ep,h1,h2,h3,h4,fun x hx=>?_,h5⟩
 have all:∀ {l:List (List Key×V)} {m:List (List Key×Addr×Value)},KT H l m->∀ x∈m,(tupleKind (jr P w)).is h x.1 x.2.1:=by
  intro l m q
  induction q with
  | nil=>intro x hx;exact nomatch hx
  | @cons p q ps qs hq t ih =>
   intro x hx;rcases yB.mp hx with e | hx
   ·subst e;exact qbQ ok (by rw [<- hq.1];exact hq.2.1)
   ·exact ih x hx
 exact all r x hx
theorem dt_of (ok:HOk P w H h) (e:H a=some (.dT kvs)):kvs.length<=sizeLine/\(a==sysModules)=false /\
  ∃ xs,KT H kvs xs/\h.DictOfH (tupleKind (jr P w)) a xs:=qc1 ok (.inl e)
end
noncomputable def DGet (H:Hp) (a:Addr) (y:V) (r:Option V):Prop:=
 (∃ kvs k,Rd H a (.dK kvs)/\y=kV k/\r=jS kvs k)\/∃ kvs k b,Rd H a (.dT kvs)/\y=.ref b/\H b=some (.tup (k.map kV))/\r=jS kvs k
noncomputable def DPut (H:Hp) (a:Addr) (y v:V) (H':Hp):Prop:=
 (∃ kvs k,H a=some (.dK kvs)/\y=kV k/\kvs.length < sizeLine/\H'=upd H a (.dK (zD kvs k v))) \/
 ∃ kvs k b,H a=some (.dT kvs)/\y=.ref b/\H b=some (.tup (k.map kV))/\kvs.length < sizeLine/\H'=upd H a (.dT (zD kvs k v))
theorem DGet.k {kvs:List (Key×V)} {k:Key} (e:H a=some (.dK kvs)):DGet H a (kV k) (jS kvs k):=.inl ⟨kvs,k,.inl e,rfl,rfl⟩
theorem DPut.k {kvs:List (Key×V)} {k:Key} {v:V} (e:H a=some (.dK kvs)) (hl:kvs.length < sizeLine):DPut H a (kV k) v (upd H a (.dK (zD kvs k v))):=.inl ⟨kvs,k,e,rfl,hl,rfl⟩
section
variable {X:Cx} {pins:List (Addr×Obj)} {σ:St} {H:Hp} {s:Shared} {a:Addr} {y v:V} {u r:Value} {o:Option V} {A:Around} {E:Value->Shared->Prop}
theorem Inv.big (I:Inv X pins σ H s):sysModules < s.heap.objs.size:=by
 have h:mainGlobals < s.heap.objs.size:=(I.mod.glob.keeps I.bk).lt;exact XB (by decide) h
theorem d_getItem {Q:Value->Shared->Prop} (hu:A.units + 1 < cLine) (I:Inv X pins σ H s) (g:DGet H a y (some v)) (ry:RelV y u) (h:∀ w' s',Inv X pins σ H s'->RelV v w'->Q w' s') :
  wpAny (model X.prog X.w) A (getItem (.ref a) u) Q E s:=by
 rcases g with ⟨kvs,k,e,ey,l⟩ | ⟨kvs,k,b,e,ey,eb,l⟩
 ·subst ey;obtain ⟨z,hd,vs,rel,dd⟩:=qcw I.hok e;obtain ⟨w',hw,rw'⟩:=RelO.some_of (v:=v) (o:=valueAt vs k) (by rw [l];exact rel.val k);exact wpAny_getItem_of (qdP ry) dd.mapOf hw (h w' _ (I.tok _) rw')
 ·subst ey;cases (show u=Value.ref b from ry);obtain ⟨z,hd,xs,rel,dd⟩:=qc1 I.hok e;obtain ⟨w',hw,rw'⟩:=RelO.some_of (v:=v) (o:=(atKey xs k).map (·.2)) (by rw [l];exact rel.val k);obtain ⟨p,hp,hp2⟩:=yn.mp hw;refine wpAny_getItem_heap (xV hu) (qbQ I.hok eb) dd hp ?_;rw [hp2];exact h w' _ (I.tok _) rw'
theorem d_in {Q:Value->Shared->Prop} (hu:A.units + 1 < cLine) (I:Inv X pins σ H s) (g:DGet H a y o) (ry:RelV y u) (h:∀ s',Inv X pins σ H s'->Q (.bool o.isSome) s') :
  wpAny (model X.prog X.w) A (compareOp .In u (.ref a)) Q E s:=by
 rcases g with ⟨kvs,k,e,ey,l⟩ | ⟨kvs,k,b,e,ey,eb,l⟩
 ·subst ey;obtain ⟨z,hd,vs,rel,dd⟩:=qcw I.hok e;refine wpAny_in_of (qdP ry) hd dd.mapOf ?_;rw [<- (rel.val k).isSome_eq,<- l];exact h _ (I.tok _)
 ·subst ey;cases (show u=Value.ref b from ry);obtain ⟨z,hd,xs,rel,dd⟩:=qc1 I.hok e;refine wpAny_in_heap (xV hu) (qbQ I.hok eb) hd dd ?_;have q:=(rel.val k).isSome_eq;rw [xA] at q;rw [<- q,<- l];exact h _ (I.tok _)
theorem d_notIn {Q:Value->Shared->Prop} (hu:A.units + 1 < cLine) (I:Inv X pins σ H s) (g:DGet H a y o) (ry:RelV y u) (h:∀ s',Inv X pins σ H s'->Q (.bool (!o.isSome)) s') :
  wpAny (model X.prog X.w) A (compareOp .NotIn u (.ref a)) Q E s:=by
 rcases g with ⟨kvs,k,e,ey,l⟩ | ⟨kvs,k,b,e,ey,eb,l⟩
 ·subst ey;obtain ⟨z,hd,vs,rel,dd⟩:=qcw I.hok e;refine wpAny_notIn_of (qdP ry) hd dd.mapOf ?_;rw [<- (rel.val k).isSome_eq,<- l];exact h _ (I.tok _)
 ·subst ey;cases (show u=Value.ref b from ry);obtain ⟨z,hd,xs,rel,dd⟩:=qc1 I.hok e;refine wpAny_notIn_heap (xV hu) (qbQ I.hok eb) hd dd ?_;have q:=(rel.val k).isSome_eq;rw [xA] at q;rw [<- q,<- l];exact h _ (I.tok _)
theorem qd3 {ob:HO} (I:Inv X pins σ H s) (mu:Mut (H a)) (hs:Heap.SameBut a s.heap h') (he:∃ q,h'.get? a=some q) (new:ObjOk X.prog X.w (upd H a ob) h' a ob) :
  Inv X pins σ (upd H a ob) { s with heap:=h',toks:=t' }:=
 I.write (x:=a) (e:=a) mu (.inl rfl) (fun b q hb z=>(hs.2 b hb).trans z) he new
theorem dk_new {kvs:List (Key×V)} {vs:List (Key×Value)} (z:kvs.length<=sizeLine) (hd:(a==sysModules)=false) (rel:KV kvs vs) (dd:h'.DictOf (jr P w) a vs) :
  ObjOk P w H' h' a (.dK kvs):=⟨z,hd,vs,rel,dd⟩
theorem d_setItem {Q:Unit->Shared->Prop} (hu:A.units + 1 < cLine) (I:Inv X pins σ H s) (g:DPut H a y v H') (ry:RelV y u) (rv:RelV v r) (h:∀ s',Inv X pins σ H' s'->Q () s') :
  wpAny (model X.prog X.w) A (setItem (.ref a) u r) Q E s:=by
 rcases g with ⟨kvs,k,e,ey,l,eH⟩ | ⟨kvs,k,b,e,ey,eb,l,eH⟩
 ·subst ey eH;obtain ⟨z,hd,vs,rel,dd⟩:=dk_of I.hok e;have hz:vs.length<=sizeLine:=by rw [<- rel.length];exact z
  have hl:(zD kvs k v).length<=sizeLine:=by have:=jm kvs k v;omega
  refine wpAny_setItem_pairs (hsz:=hz) (qdP ry) dd fun h' dd' hs=>h _ ?_;have he:∃ q,h'.get? a=some q:=let ⟨q,_,_,hq,_⟩:=dd';⟨q,hq⟩;exact qd3 I (by rw [e];exact YQ) hs he (dk_new hl hd (rel.put k rv) dd')
 ·subst ey eH;cases (show u=Value.ref b from ry);obtain ⟨z,hd,xs,rel,dd⟩:=dt_of I.hok e;have hz:xs.length<=sizeLine:=by rw [<- Paired.length rel];exact z
  have hl:(zD kvs k v).length<=sizeLine:=by have:=jm kvs k v;omega
  refine wpAny_setItem_heap (hsz:=hz) (xV hu) (qbQ I.hok eb) dd fun h' dd' hs=>h _ ?_;obtain ⟨q,es,ep,hq,h2,h3,h4,_,h5⟩:=dd';refine qd3 I (by rw [e];exact YQ) hs ⟨q,hq⟩ ⟨hl,hd,_,(rel.put k eb rv).keeps fun c ys ec=>?_,q,es,ep,hq,h2,h3,h4,h5⟩;rw [qf (qav ec e (fun z=>nomatch z))];exact ec
end
section
variable {X:Cx} {pins:List (Addr×Obj)} {σ:St} {H:Hp} {s:Shared} {a:Addr} {kvs:List (Key×V)} {k:Key} {u:Value} {A:Around} {E:Value->Shared->Prop}
theorem d_len {Q:Value->Shared->Prop} (I:Inv X pins σ H s) (e:Rd H a (.dK kvs)) (h:∀ t s',Inv X pins σ H s'->Q (.int kvs.length t) s'):wpAny (model X.prog X.w) A (call (.builtin "len") [.ref a]) Q E s:=by
 obtain ⟨z,hd,vs,rel,dd⟩:=qcw I.hok e;refine call_len_dict hd dd (by rw [<- rel.length];rw [YC] at z;omega) ?_;rw [<- rel.length];exact h _ _ (I.tok _)
end
theorem dict_typeIs (I:Inv X pins σ H s) (g:DGet H a y o):s.TypeIs (.ref a) "dict":=by
 rcases g with ⟨kvs,k,e,_,_⟩ | ⟨kvs,k,b,e,_,_,_⟩
 ·obtain ⟨_,_,vs,_,dd⟩:=qcw I.hok e;exact dd.typeIs
 ·obtain ⟨_,_,xs,_,dd⟩:=qc1 I.hok e;exact dd.typeIs
section
variable {X:Cx} {o i e value:Expr} {pos pos' tpos:Pos} {td ty tv:TE}
end
theorem dk_empty (h:Heap) (hb:sysModules < h.objs.size):ObjOk P w H (h.push { cls:=.type "dict",data:=.dict #[] }) h.objs.size (.dK []):=
 ⟨YK _,YJ.mpr (Yn (yN hb)),[],.nil,Heap.DictOf.new h⟩
noncomputable def tDNewK:TE:=fun _ H Q=>∀ p,H p=none->Q (.ref p) (upd H p (.dK []))
section
variable {X:Cx} {pos:Pos}
theorem jZ:PE X (.Dict [] [] pos) tDNewK:=fun pins s σ H Q I h =>
 wpAny_Dict_empty ⟨.ref s.heap.objs.size,_,I.laid (a:=s.heap.objs.size) (o:=.dK []) (t':=s.toks) (fun _ _ q=>yw _ q) (yh _) (dk_empty s.heap I.big),rfl,h _ (I.hok.fresh (yh _))⟩
end
noncomputable def mergeK (kvs more:List (Key×V)):List (Key×V):=more.foldl (fun acc kv=>zD acc kv.1 kv.2) kvs
structure M1 (X:Cx) (o:Expr) (m:Str) (apos:Pos) (e:Expr) (cpos:Pos):Prop where
 base:attributeBase o m X.env (eval o X.env)=eval o X.env
 few:((backTo cpos (starEach [e] X.env)).all (fun x=>!x.1)&&(backToKw cpos (keywordEach [] X.env)).all (fun x=>x.1.isSome)
  && decide (([e]:List Expr).length + ([]:List Keyword).length + (if ([]:List Keyword).isEmpty then 0 else 1) < 30))=true
 line:(apos.endLine==cpos.line)=true
 trees:backTo cpos (starEach [e] X.env)=[(false,eval e X.env)]
structure M2 (X:Cx) (o:Expr) (m:Str) (apos:Pos) (e f:Expr) (cpos:Pos):Prop where
 base:attributeBase o m X.env (eval o X.env)=eval o X.env
 few:((backTo cpos (starEach [e,f] X.env)).all (fun x=>!x.1)&&(backToKw cpos (keywordEach [] X.env)).all (fun x=>x.1.isSome)
  && decide (([e,f]:List Expr).length + ([]:List Keyword).length + (if ([]:List Keyword).isEmpty then 0 else 1) < 30))=true
 line:(apos.endLine==cpos.line)=true
 trees:backTo cpos (starEach [e,f] X.env)=[(false,eval e X.env),(false,eval f X.env)]
noncomputable def IsD (H:Hp) (a:Addr):Prop:=(∃ kvs,Rd H a (.dK kvs))\/∃ kvs,Rd H a (.dT kvs)
theorem isD_at (I:Inv X pins σ H s) (d:IsD H a) :
  s.TypeIs (.ref a) "dict"/\(∀ b,Value.ref a=.ref b->∃ ob,s.heap.get? b=some ob/\ob.dict=none)/\(a==sysModules)=false:=by
 rcases d with ⟨kvs,e⟩ | ⟨kvs,e⟩
 ·obtain ⟨_,hd,vs,_,dd⟩:=qcw I.hok e;refine ⟨dd.typeIs,fun b q=>?_,hd⟩;cases q;obtain ⟨ob,_,_,h1,h2,_⟩:=dd;exact ⟨ob,h1,h2.2.1⟩
 ·obtain ⟨_,hd,xs,_,dd⟩:=qc1 I.hok e;refine ⟨dd.typeIs,fun b q=>?_,hd⟩;cases q;obtain ⟨ob,_,_,h1,h2,_⟩:=dd;exact ⟨ob,h1,h2.2.1⟩
section
variable {X:Cx} {pins:List (Addr×Obj)} {σ:St} {H:Hp} {s:Shared} {a:Addr} {y d:V} {u r:Value} {o:Option V} {A:Around} {E:Value->Shared->Prop}
theorem d_get1 {Q:Value->Shared->Prop} (hu:A.units + 1 < cLine) (I:Inv X pins σ H s) (g:DGet H a y o) (ry:RelV y u) (h:∀ w' s',Inv X pins σ H s'->RelV (o.getD .non) w'->Q w' s') :
  wpAny (model X.prog X.w) A (call (.builtin "dict.get") [.ref a,u]) Q E s:=by
 rcases g with ⟨kvs,k,e,ey,l⟩ | ⟨kvs,k,b,e,ey,eb,l⟩
 ·subst ey;obtain ⟨z,hd,vs,rel,dd⟩:=qcw I.hok e;refine call_meetsIn XF dd.typeIs PySem.F.entry_dict_get (PySem.F.args_dict_get_2 _ _) (meets_dict_get (jr X.prog X.w) a (qdP ry) hd) ⟨_,dd.mapOf,h _ _ (I.tok _) ?_⟩;rw [l];exact (rel.val k).getD rfl
 ·subst ey;cases (show u=Value.ref b from ry);obtain ⟨z,hd,xs,rel,dd⟩:=qc1 I.hok e;refine call_meetsIn XF dd.typeIs PySem.F.entry_dict_get (PySem.F.args_dict_get_2 _ _) (meetsH_dict_get (tupleKind (jr X.prog X.w)) a b hd) ⟨xV hu,k,xs,qbQ I.hok eb,dd,h _ _ (I.tok _) ?_⟩;rw [l];exact (rel.val k).getD rfl
end
noncomputable def qeK (td ty:TE):TE:=fun σ H Q=>td σ H fun x H1=>∃ a,x=.ref a/\IsD H1 a/\ty σ H1 fun y H2=>∃ o,DGet H2 a y o/\Q (o.getD .non) H2
noncomputable def tDGet2 (td ty tx:TE):TE:=fun σ H Q=>td σ H fun x H1=>∃ a,x=.ref a/\IsD H1 a/\ty σ H1 fun y H2=>tx σ H2 fun z H3=>∃ o,DGet H3 a y o/\Q (o.getD z) H3
section
variable {X:Cx} {o e f:Expr} {apos cpos:Pos} {td ty tx:TE}
theorem qaA (hu:X.A.units + 1 < cLine) (ho:PE X o td) (he:PE X e ty) (m:M1 X o "get" apos e cpos):PE X (.Call (.Attribute o "get" apos) [e] [] cpos) (qeK td ty):=by
 intro pins s σ H Q I h;refine wpAny_Call_method m.base m.few m.line PySem.F.plainAttrs_dict XF PySem.F.type_dict_get (thn (ho pins s σ H _ I h) fun u s1 ⟨x,H1,I1,rx,a,ex,d,q1⟩=>?_);subst ex;obtain rfl:u=Value.ref a:=rx;obtain ⟨t1,t2,_⟩:=isD_at I1 d;refine ⟨t1,t2,?_⟩;rw [m.trees];refine XA rfl (Calls.evalArgs_plain (kc (thn (he pins s1 σ H1 _ I1 q1) fun iv s2 ⟨y,H2,I2,ry,ov,g,q2⟩=>kh ?_)));exact d_get1 hu I2 g ry fun w' s3 I3 rw'=>⟨_,H2,I3,rw',q2⟩
end
section
variable {X:Cx} {pins:List (Addr×Obj)} {σ:St} {H:Hp} {s:Shared} {a:Addr} {kvs:List (Key×V)} {A:Around} {E:Value->Shared->Prop}
end
section
variable {X:Cx} {pins:List (Addr×Obj)} {σ:St} {H:Hp} {s:Shared} {a:Addr} {y:V} {u:Value} {A:Around} {E:Value->Shared->Prop}
end
end L2
namespace Att
open PySem PySem.W PySem.Calls PyProof.Rows
variable {P:Params} {h:Heap} {l:OpenLaw} {n:Nat}
theorem ints_of_wellAll:∀ (ns:List Int) (vs:List Value),WellAll P h vs (ns.map WData.int)->IntsAre vs ns:=by
 intro ns
 induction ns with
 | nil =>
  intro vs w;rw [List.map_nil] at w;cases w;exact .nil
 | cons n ns ih =>
  intro vs w;rw [Yy] at w
  cases w with
  | cons a b =>
   cases a;exact .cons _ _ (ih _ b)
theorem script_of (hn:l.most=some n) {args:List WData} {vals:List Value}
  (hpre:l.row.toRowW.claim.pre args=true) (hwl:WellAll P h vals args) :
  ∃ a vs ns,vals=[Value.ref a]/\args=[WData.list (ns.map WData.int)]/\h.get? a=some { cls:=.type "list",data:=.seq vs.toArray }/\IntsAre vs ns/\ns.length<=n:=by
 have hsh:WShape.hasAll [] args [.list .int]=true:=(pre_splitW hpre).1;have hc:l.pre.holds [] { args:=args }=true:=(pre_splitW hpre).2;obtain ⟨d,r,rfl,h1,h2⟩:=hasAllW_cons hsh;obtain rfl:=hasAllW_nil h2;obtain ⟨xs,rfl,h3⟩:=hasW_list h1;obtain ⟨ns,rfl⟩:=items_int h3
 have hlen:ns.length<=n:=by
  unfold OpenLaw.pre at hc
  have h4:(WTm.not (.lt (.lit (.int (n:Int))) (.len (.arg 0)))).holds [] { args:=[.list (ns.map .int)] }=true:=by
   have h4:=(holds_andW hc).1;rw [hn] at h4;exact h4
  have h5:=condW_of h4 (w_not (w_lt w_lit (w_len_list (w_arg rfl))));rw [ya] at h5;refine Nat.le_of_not_lt fun q=>?_;have q':(n:Int) < ((ns.length:Nat):Int):=by omega
  first
   | (rw [yG q'] at h5;exact absurd h5 (by decide))
   | (simp at h5;omega)
 cases hwl with
 | cons w1 w2 =>
  cases w2
  cases w1 with
  | list ho hall=>exact ⟨_,_,ns,rfl,rfl,ho,ints_of_wellAll ns _ hall,hlen⟩
theorem post_true (l:OpenLaw) (args:List WData):l.row.toRowW.claim.post args (.bool true) args=true:=
 postW_of (r:=l.row.toRowW) (X:=(true==true))
  (show WShape.has [] (.bool true) .bool=true by first | rfl | decide | simp [WShape.has,WShape.arms,WShape.armsAll])
  (show (WTm.eq .res (.lit (.bool true))).value [] { args:=args,res:=some (.bool true),after:=args }=some (.bool (true==true)) from w_eq_bool (w_res rfl) w_lit) rfl
theorem attach_call {q:Program} {loose:List Str} {XP:(Str->Option Value)->Heap->Prop} {YP:World->Heap->Prop} {d:DefRec}
  (hn:l.most=some n) (hdf:d.params.defaults=[])
  (call:∀ (w:World) (s₀ s₁:Shared) (mg mb:Str->Option Value) (fa:Addr) (o:Obj) (pm cd doc:Value) (a:Addr) (vs:List Value) (ns:List Int),
   Ground q loose [] XP w s₀ mg mb s₁.heap->YP w s₁.heap ->
   s₁.heap.get? fa=some o->o.data=.func (docDef d.name d.params d.body d.scope pm cd doc)->s₁.heap.CodeRec cd d.name->mg d.name=some (.ref fa) ->
   s₁.heap.get? a=some { cls:=.type "list",data:=.seq vs.toArray }->IntsAre vs ns->ns.length<=n->s₁.gens=#[] ->
   codeAny (model l.prog w) callerA (.call (.ref fa) ⟨[.ref a],[]⟩) (fun r s'=>r=.ok (.ret (.bool true))/\OldK s₁.heap s'.heap/\s'.os=s₁.os/\AllBare s'.gens) s₁) :
  WalkO q loose XP YP l.row.toRowW d [] (fun f vs=>PySem.call f vs):=by
 intro w s₀ s₁ mg mb G Y fa o pm cd doc dV kV ho hd hcd hD hmg hg args vals as hpre hlay hrd hwl hlo;obtain rfl:dV=.none:=Dflts.none hD hdf;obtain rfl:kV=.none:=Dflts.noKw hD;obtain ⟨a,vs,ns,rfl,rfl,hobj,hints,hlen⟩:=script_of hn hpre hwl;refine enter_call (kF (call w s₀ s₁ mg mb fa o pm cd doc a vs ns G Y ho (fd_plain hd) hcd hmg hobj hints hlen hg) fun r s' hq=>?_);obtain ⟨rfl,h2,h3,h4⟩:=hq;exact ⟨.inl ⟨.bool true,.bool true,[],rfl,fun _=>rfl,.bool true,post_true l _,fun _=>⟨List.Pairwise.nil,fun _ hm=>(nomatch hm)⟩⟩,h2,h3,h4⟩
section
variable {prog:Program} {w:World} {A:Around} {E:Value->Shared->Prop} {s:Shared} {K:Frag}
noncomputable def ledger (h:Heap) (L d:Addr):List (Addr×Obj):=(List.range h.objs.size).filterMap fun a=>if a=L\/a=d then none else (h.get? a).map fun o=>(a,o)
end
end Att
namespace L2
open PySem PySem.Spec PyProof.Rows
variable {A B:Prop} {H H':Hp} {a f:Addr} {fd:FuncData} {n:Nat} {ps:List Str} {qual x:Str} {sp:Sp} {st:Stmt}
theorem qcx:∀ {vs:List Value} {ns:List Int},IntsAre vs ns->Vals (ns.map V.int) vs
 | _,_,.nil=>.nil
 | _,_,.cons n t h=>.cons ⟨t,rfl⟩ (qcx h)
noncomputable def qfV (H:Hp):Prop:=∀ b,H b=none\/∃ o xs,H b=some (.frz o (.lst xs))
theorem law_call {P:Program} {w:World} {K:yg} {mg mb:Str->Option Value} {CX:CXT} {k:Nat} {fa:Addr} {s₁:Shared} {vs:List Value} {ns:List Int}
  (KX:K.In s₁.heap) (hns:s₁.heap.Ns mainGlobals mg) (hb:s₁.heap.Ns builtinsNs mb) (hbb:∀ x:Str,x≠"__name__"->mb x=bootBuiltins x) (hlim:s₁.heap.NoLimit) (hg:s₁.gens=#[])
  (ha:s₁.heap.get? a=some { cls:=.type "list",data:=.seq vs.toArray }) (hi:IntsAre vs ns) (hl:ns.length<=sizeLine) (hr:Room k callerA)
  (F:∀ base:Heap,K.In base->base.Ns mainGlobals mg->FnOk P w K mg base CX k fa fd [x] sp) (hbind:∀ (s:Shared) (u:Value),BindsTo s fd ⟨[u],[]⟩ [(x,u)])
  (hsp:∀ H:Hp,qfV H->SqL K H a (ns.map V.int)->sp [.ref a] H (fun v _=>v=.bl true) fun _ _ _=>False)
  (hCX:∀ H e s',CX [] H s₁ (fun _ _ _=>False) e s'->False) :
  codeAny (model P w) callerA (.call (.ref fa) ⟨[.ref a],[]⟩) (fun r s'=>r=.ok (.ret (.bool true))/\OldK s₁.heap s'.heap/\s'.os=s₁.os/\AllBare s'.gens) s₁:=by
 have rv:=qcx hi;have lenV:=hi.length;have core:∀ H:Hp,qfV H->SqL K H a (ns.map V.int)->HOk P w H s₁.heap->(∀ b,H b≠none->b=a)->(H a≠none->K.lookup a=none) ->
   codeAny (model P w) callerA (.call (.ref fa) ⟨[.ref a],[]⟩) (fun r s'=>r=.ok (.ret (.bool true))/\OldK s₁.heap s'.heap/\s'.os=s₁.os/\AllBare s'.gens) s₁:=by
  intro H hO hS hok hA hK;have base_of:∀ {b:Addr} {o:Obj},s₁.heap.get? b=some o->H b=none->(qey s₁.heap H).get? b=some o:=fun e n=>hidT_get e n
  have noA:∀ {b:Addr} {o:Obj} {es:Array DictEntry} {ep:Nat},s₁.heap.get? b=some o->o.data=.dict es ep->H b=none:=fun {b o es ep} e d=>by
   cases q:H b with
   | none=>rfl
   | some u =>
    have e':b=a:=hA b (by rw [q];simp);subst e';rw [ha] at e;cases e;have d':Data.seq vs.toArray _=Data.dict es ep:=d;cases d'
  have nsK:∀ {b:Addr} {m:Str->Option Value},s₁.heap.Ns b m->(qey s₁.heap H).Ns b m:=fun {b m} ⟨o,es,ep,e,d,r⟩=>⟨o,es,ep,base_of e (noA e d),d,r⟩
  have hKb:K.In (qey s₁.heap H):=fun b o e=>base_of (KX b o e) (by
   cases q:H b with
   | none=>rfl
   | some u =>
    have e':b=a:=hA b (by rw [q];simp);subst e';rw [hK (by rw [q];simp)] at e;cases e)
  have hM:Mod K mg (qey s₁.heap H):=⟨hKb,nsK hns,⟨mb,nsK hb,hbb⟩,let ⟨mc,h1,h2⟩:=hlim;⟨mc,nsK h1,h2⟩⟩;have e0:Env0 P w K mg (qey s₁.heap H) callerA [] s₁ H:=⟨rfl,hM,fun b o e=>of_hidT e,X9 (hidT_size _ _),trivial,fun b hb=>absurd (show b∈([]:List Addr) from hb) (by simp),hok,.of_eq hg⟩;refine kF ((F _ hKb (nsK hns)).run callerA [] s₁ H ⟨[.ref a],[]⟩ [.ref a] [.ref a] _ _ hr e0 (hbind s₁ (.ref a)) (.cons rfl .nil) (hsp H hO hS)) fun r s' h=>?_
  cases r with
  | error e=>exact (hCX H e s' h).elim
  | ok fl =>
   cases fl with
   | next=>exact False.elim h
   | brk=>exact False.elim h
   | cont=>exact False.elim h
   | ret u =>
    obtain ⟨v,H',os,bare,un,hok',r',q⟩:=h;have q':v=.bl true:=q;subst q';obtain rfl:u=Value.bool true:=r';refine ⟨rfl,OldK.of_keep fun b o e=>?_,os,bare⟩
    cases q:H b with
    | none=>exact un.keep b o e q (by intro z;exact absurd (show b∈([]:List Addr) from z) (by simp)) (by simp)
    | some u =>
     rcases hO b with z | ⟨ob,xs,z⟩
     ·rw [q] at z;cases z
     ·have z2:=un.frzs b ob _ z;obtain ⟨e1,_⟩:=hok b _ z;obtain ⟨e2,_⟩:=hok' b _ z2;rw [e] at e1;cases e1;exact e2
 cases hk:K.lookup a with
 | some o =>
  have e:=KX a o hk;rw [ha] at e;cases e;refine core (fun _=>none) (fun _=>.inl rfl) (.inr ⟨_,vs.toArray,_,hk,rfl,rfl,rfl,by rw [yv,lenV];exact hl,by simpa using rv⟩) (fun b u z=>by have z':(none:Option HO)=some u:=z;cases z') (fun b z=>absurd rfl z) fun z=>absurd rfl z
 | none =>
  refine core (fun b=>if b=a then some (.frz { cls:=.type "list",data:=.seq vs.toArray } (.lst (ns.map V.int))) else none) (fun b=>?_) (.inl (.inr ⟨{ cls:=.type "list",data:=.seq vs.toArray },yF rfl⟩)) (fun b u z=>?_) (fun b z=>?_) fun _=>hk
  ·by_cases hb:b=a
   ·exact .inr ⟨_,_,yF hb⟩
   ·exact .inl (yC hb)
  ·by_cases hb:b=a
   ·have z':=(yF hb).symm.trans z;cases z';subst hb;exact ⟨ha,by rw [ya];exact hl,vs,_,rv,ha⟩
   ·have z':=(yC hb).symm.trans z;cases z'
  ·by_cases hb:b=a
   ·exact hb
   ·exact absurd (yC hb) z
noncomputable abbrev KOf {K:yg} {h:Heap} (_:K.In h):yg:=K
theorem walk_of {l:PySem.W.OpenLaw} {k:Nat} {q:Program} {loose:List Str} {XP:(Str->Option Value)->Heap->Prop} {YP:World->Heap->Prop} {d:DefRec} {K:Params->yg} {CX:World->CXT} {sp:World->Sp}
  (hn:l.most=some n) (hn2:n<=sizeLine) (hdf:d.params.defaults=[]) (hr:Room k callerA)
  (hY:∀ (w:World) (h:Heap),YP w h->(K w.params).In h)
  (F:∀ (w:World) (mg:Str->Option Value) (fa:Addr) (h:Heap),(K w.params).In h->h.Ns mainGlobals mg->mg d.name=some (.ref fa) ->
   ∃ fd:FuncData,(∀ (s:Shared) (u:Value),BindsTo s fd ⟨[u],[]⟩ [(x,u)]) /\
    ∀ base:Heap,(K w.params).In base->base.Ns mainGlobals mg->FnOk l.prog w (K w.params) mg base (CX w) k fa fd [x] (sp w))
  (hsp:∀ (w:World) (H:Hp) (a:Addr) (ns:List Int),ns.length<=n->qfV H->SqL (K w.params) H a (ns.map V.int)->sp w [.ref a] H (fun v _=>v=.bl true) fun _ _ _=>False)
  (hCX:∀ (w:World) (H:Hp) (s:Shared) (e:Value) (s':Shared),CX w [] H s (fun _ _ _=>False) e s'->False) :
  PySem.W.WalkO q loose XP YP l.row.toRowW d [] (fun f vs=>PySem.call f vs):=by
 refine Att.attach_call hn hdf fun w s₀ s₁ mg mb fa o pm cd doc a vs ns G Y ho hd hcd hmg hobj hints hlen hg=>?_;have KX:=hY w _ Y;obtain ⟨fd,hb,hF⟩:=F w mg fa _ KX G.T.g hmg;exact law_call KX G.T.g G.T.b G.T.builtins G.T.nolimit hg hobj hints (yi hlen hn2) hr hF hb (fun H hO hS=>hsp w H a ns hlen hO hS) fun H e s'=>hCX w H s₁ e s'
noncomputable abbrev CX0:CXT:=fun _ _ _ _ _ _=>False
noncomputable abbrev E0:XK:=fun _ _ _=>False
theorem qw {X:Cx}:qa3 CX0 X E0:=fun _ _ _ _ _ _ _ h=>h.elim
structure Fun (K:yg) (x qual:Str) (st:Stmt) (f:Addr) (fd:FuncData):Prop where
 ex:∃ (oc:Value) (od:Option Addr) (kV doc pm:Value) (an:Option Addr) (cdv ct:Value) (osl:Array (Option Value)),
  fd=PySem.W.fnOf x qual (qaq st) (zR st) (qg st) .none kV doc pm an cdv ct/\K.lookup f=some ⟨oc,od,.func fd,osl⟩/\PySem.W.codeIn K cdv qual=true
 kp:PySem.W.keepIn K (.ref f)=true
section
variable {P:Program} {w:World} {K:yg} {mg:Str->Option Value} {base:Heap}
theorem Fun.ok {N:List Str} {k:Nat} (F:Fun K x qual st f fd) (S:FnScope N ps (qg st)) (hbody:∀ (cdv:Value) (A:Around) (outer:List Env) (s:Shared) (H:Hp) (vs:List V) (Q:VK) (E:XK),Room k (A.deeper (envOfC qual (qg st) s.heap.objs.size f cdv))->sp vs H Q E ->
   ∃ t,PSs (qff CX0 P w K mg base N qual (qg st) f cdv A outer s H E).nox (zR st) t/\t { nx:=fun _ H'=>Q .non H',rt:=Q } (start N vs) H) (len:∀ vs H Q E,sp vs H Q E->vs.length=ps.length:=by intro _ _ _ _ h;cases h;subst_vars;rfl):FnOk P w K mg base CX0 (k + 1) f fd ps sp:=by
 obtain ⟨oc,od,kV,doc,pm,an,cdv,ct,osl,rfl,lk,hcd⟩:=F.ex;refine fn_of lk hcd S len fun A outer s H vs Q E hr hsp=>?_;obtain ⟨t,h,q⟩:=hbody cdv A outer s H vs Q E hr hsp;exact ⟨t,h.nox,q⟩
theorem Fun.binds (F:Fun K x qual st f fd)
  (h:∀ (kV doc pm:Value) (an:Option Addr) (cdv ct:Value) (us:List Value),us.length=ps.length->bindArgs (PySem.W.fnOf x qual (qaq st) (zR st) (qg st) .none kV doc pm an cdv ct) ⟨us,[]⟩=pure (ps.zip us)):Binds K fd ps []:=by
 obtain ⟨oc,od,kV,doc,pm,an,cdv,ct,osl,rfl,lk,hcd⟩:=F.ex;exact .all (h kV doc pm an cdv ct)
theorem fun_mk {oc:Value} {od an:Option Addr} {osl:Array (Option Value)} {kV doc pm cdv ct:Value} (l:K.lookup f=some ⟨oc,od,.func (PySem.W.fnOf x qual (qaq st) (zR st) (qg st) .none kV doc pm an cdv ct),osl⟩)
  (c:PySem.W.codeIn K cdv qual=true) (k:PySem.W.keepIn K (.ref f)=true):Fun K x qual st f (PySem.W.fnOf x qual (qaq st) (zR st) (qg st) .none kV doc pm an cdv ct):=⟨⟨oc,od,kV,doc,pm,an,cdv,ct,osl,rfl,l,c⟩,k⟩
end
theorem qi (h:n<=1000):n < sizeLine:=Yr h (by decide)
section
variable {X:Cx}
theorem pv (i:Nat) {pos:Pos} (hN:X.N[i]?=some x:=by rfl) (hv:Vis X.env.scope x:=by first | exact yE rfl | exact Xw (yE rfl) | exact Xw (Xw rfl)) (hd:(x==("__debug__":Str))=false:=by decide)
  (hcd:(x==("__classdict__":Str))=false:=by decide):PE X (.Name x pos) (qfP i):=pe_var hN hv hd hcd
theorem call_lenD:zL X (.builtin "len") (fun xs H Q=>∃ a kvs,xs=[V.ref a]/\H a=some (.dK kvs)/\Q (.int kvs.length) H):=by
 intro pins s σ H xs us Q I r h;obtain ⟨a,kvs,rfl,ha,q⟩:=h;obtain ⟨u,rfl,ru⟩:=qbZ r;cases ru;exact d_len I (.inl ha) fun t s' I'=>⟨.int kvs.length,H,I',⟨t,rfl⟩,q⟩
end
theorem zN (h:A):if true=true then A else B:=by
 rw [yF rfl];exact h
theorem qP {c:Prop} [Decidable c] (h1:c->A) (h2:¬ c->B):if c then A else B:=by
 by_cases h:c
 ·rw [yF h];exact h1 h
 ·rw [yC h];exact h2 h
noncomputable def Same (H H':Hp):Prop:=∀ b o,H b=some o->H' b=some o
theorem Same.refl (H:Hp):Same H H:=fun _ _ h=>h
theorem Same.trans {H1 H2:Hp} (a:Same H H1) (b:Same H1 H2):Same H H2:=fun c o h=>b c o (a c o h)
theorem Same.free (e:Same H H') {l:Addr} (h:H' l=Option.none):H l=Option.none:=by
 cases q:H l with
 | none=>rfl
 | some o =>
  rw [e l o q] at h;cases h
theorem Same.seq {K:yg} {xs:List V} (e:Same H H') (h:SqL K H a xs):SqL K H' a xs:=by
 rcases h with (h | ⟨o,h⟩) | h
 ·exact .inl (.inl (e _ _ h))
 ·exact .inl (.inr ⟨o,e _ _ h⟩)
 ·exact .inr h
section
variable {κ:Type} [DecidableEq κ]
end
end L2
set_option maxHeartbeats 4000000
namespace L2
open PySem PySem.Spec PyProof.Rows
variable {C D c e it p:Addr} {E:Value->Shared->Prop} {H:Hp} {N:List Str} {P:Program} {QO:Option Int->Hp->Prop} {R:It->Hp->Prop} {T:String} {X:Cx} {acc:List (Str×Addr)} {dx:Option Addr} {elt iter tg:Expr} {env:Env} {expr:Bool} {f:V->List V->Hp->VK->Prop} {fp:List Addr} {g:TG} {h:Heap} {i j:Int} {ifs:List Expr} {its:List Value} {ixs:List Nat} {n nl:Nat} {names:List (Str×NameKind)} {od:Option Obj} {ox:Obj} {pins:List (Addr×Obj)} {pos:Pos} {s:Shared} {sc scope:Scope} {t u:Value} {tc:TT} {te:TE} {tk:Tok} {v y:V} {w:World} {wi:TI} {x z:Str} {xs ys:List V} {σ:St}
section
variable {prog:Program} {w:World} {A:Around} {R:Result->Shared->Prop} {s:Shared}
theorem compLoop_own {target:Expr} {it acc:Value} (I:Nat->Shared->Prop)
  (turn:∀ n s,I n s->wpAny (model prog w) A (pyNext it) (fun r s1=>match r with
   | none=>R (.ok .next) s1
   | some v=>wpAny (model prog w) A (letOwnedTupleGo target it v) (fun _ s1'=>wpAny (model prog w) A (assign target env v) (fun _ s2 =>
     wpAny (model prog w) A (forIn ifs true fun c r=>if r=true then do let ok <- isTrue c env (eval c env);pure (ForInStep.yield ok) else pure (ForInStep.yield r)) (fun ok s3 =>
      if ok=true then wpAny (model prog w) A (eval elt env) (fun x s4 =>
       wpAny (model prog w) A (call (.builtin "list.append") [acc,x]) (fun _ s5=>∃ m,m < n/\I m s5) (fun _ _=>False) s4) (fun _ _=>False) s3
      else ∃ m,m < n/\I m s3) (fun _ _=>False) s2) (fun _ _=>False) s1') (fun _ _=>False) s1) (fun _ _=>False) s)
  (n:Nat) (h:I n s) :
  codeAny (model prog w) A (.compLoop (.ListComp elt [⟨target,iter,ifs,0⟩] scope pos) 0 it acc env) R s:=by
 refine codeAny_loop rfl I (fun n s hI=>?_) n h;show wpAny _ A ((compTurn (.ListComp elt [⟨target,iter,ifs,0⟩] scope pos) 0 it acc env).onRaise (fun x=>do noteFrame x env;theTreesLotGoes x)) _ _ s;refine wpAny_noted ?_;rw [compTurn_list];refine yr (wpAny_standAt (yr (YV (turn n s hI) (fun r s1 h1=>?_) fun _ _ h'=>h'.elim)))
 cases r with
 | none=>exact yx h1
 | some v =>
  refine yr (YV h1 (fun _ s1' h1'=>?_) fun _ _ h'=>h'.elim);refine yr (YV h1' (fun _ s2 h2=>yr (YV h2 (fun ok s3 h3=>?_) fun _ _ h'=>h'.elim)) fun _ _ h'=>h'.elim)
  cases ok with
  | false=>exact yx ⟨rfl,h3⟩
  | true =>
   exact yr (yr (YV h3 (fun x s4 h4=>yr (YV h4 (fun _ s5 h5=>yx (yx ⟨rfl,h5⟩)) fun _ _ h'=>h'.elim)) fun _ _ h'=>h'.elim))
end
noncomputable def qN (env:Env):List (Str×NameKind)->List (Str×Addr)->List (Str×Addr)
 | [],acc=>acc
 | (n,k)::r,acc=>qN env r (if (k==.free)=true then (n,(env.cells.lookup n).getD 0)::acc else acc)
theorem zE:∀ {names:List (Str×NameKind)} {acc:List (Str×Addr)} {x:Str} {c:Addr},(qN env names acc).lookup x=some c ->
  ((x,NameKind.free)∈names/\c=(env.cells.lookup x).getD 0)\/acc.lookup x=some c
 | [],_,_,_,h=>.inr h
 | (n,k)::r,acc,x,c,h=>by
  unfold qN at h;rcases zE h with ⟨h1,h2⟩ | h1
  ·exact .inl ⟨yJ _ h1,h2⟩
  ·by_cases hk:(k==NameKind.free)=true
   ·rw [yF hk,xO] at h1
    cases hx:x==n with
    | true =>
     rw [hx] at h1;have e:x=n:=Yo.mp hx;have e2:k=.free:=Yo.mp hk;subst e e2;exact .inl ⟨yZ,(ym h1).symm⟩
    | false =>
     rw [hx] at h1;exact .inr h1
   ·rw [yC hk] at h1;exact .inr h1
theorem qaB:∀ {names:List (Str×NameKind)} {acc:List (Str×Addr)} {x:Str},(∃ c,acc.lookup x=some c)->∃ c,(qN env names acc).lookup x=some c
 | [],_,_,h=>h
 | (n,k)::r,acc,x,h=>by
  unfold qN;apply qaB;by_cases hk:(k==NameKind.free)=true
  ·rw [yF hk,xO]
   cases hx:x==n with
   | true=>exact ⟨_,rfl⟩
   | false=>exact h
  ·rw [yC hk];exact h
theorem zF:∀ {names:List (Str×NameKind)} {acc:List (Str×Addr)} {x:Str},(x,NameKind.free)∈names->∃ c,(qN env names acc).lookup x=some c
 | [],_,_,h=>by cases h
 | (n,k)::r,acc,x,h=>by
  unfold qN;rcases yB.mp h with e | e
  ·cases e;apply qaB;rw [show (NameKind.free==NameKind.free)=true from rfl,yF rfl,xO,xP];exact ⟨_,rfl⟩
  ·exact zF e
theorem qaC (h:∀ n,(n,NameKind.free)∈scope.names->∃ c,env.cells.lookup n=some c):closureFor scope env=pure (qN env scope.names []):=by
 have key:∀ (names:List (Str×NameKind)) (acc:List (Str×Addr)),(∀ n,(n,NameKind.free)∈names->∃ c,env.cells.lookup n=some c) ->
   (forIn names acc (fun (x:Str×NameKind) (r:List (Str×Addr))=>(if (x.2==NameKind.free)=true then (cellOf env x.1>>=fun c=>pure (ForInStep.yield ((x.1,c)::r))) else pure (ForInStep.yield r):Sem (ForInStep (List (Str×Addr))))))=(pure (qN env names acc):Sem (List (Str×Addr))):=by
  intro names
  induction names with
  | nil=>intro acc _;rfl
  | cons x r ih =>
   intro acc hn;obtain ⟨n,k⟩:=x;rw [kK];unfold qN;by_cases hk:(k==NameKind.free)=true
   ·have e2:k=.free:=Yo.mp hk;subst e2;obtain ⟨c,hc⟩:=hn n yZ;have e3:cellOf env n=pure c:=by unfold cellOf;rw [hc]
    simp only [hk,Xz,e3,hc,Option.getD_some];exact ih _ fun m hm=>hn m (yJ _ hm)
   ·simp only [hk,XU];exact ih _ fun m hm=>hn m (yJ _ hm)
 have e:=key scope.names [] h;unfold closureFor;exact Eq.trans (congrArg (fun m=>m>>=pure) e) rfl
@[reducible] noncomputable def Cx.comp (X:Cx) (N:List Str) (scope:Scope) (C:Addr) (s0:Shared) (H0:Hp) (ex:List Addr):Cx where
 prog:=X.prog
 w:=X.w
 K:=X.K
 mg:=X.mg
 base:=X.base
 A:=X.A
 N:=N
 s₀:=s0
 H₀:=H0
 env:=compEnvC scope (cellsFrom (C + 1) scope.names (qN X.env scope.names [])) C X.env
 outer:=X.stack
 stack:=X.stack
 ex:=ex
 fn:=fun x=>scope.names.lookup x==some NameKind.cell
 calm:=X.calm
 pn:=[]
 xe:=fun _ _=>False
theorem jt:∀ (names:List (Str×NameKind)) (n:Nat) (acc:List (Str×Addr)),cellsFrom n names acc=cellsFrom n names []++acc
 | [],_,_=>rfl
 | (m,k)::r,n,acc=>by
  unfold cellsFrom;split
  ·rw [jt r (n + 1) ((m,n)::acc),jt r (n + 1) [(m,n)],Yj];rfl
  ·exact jt r n acc
theorem qaD:∀ {names:List (Str×NameKind)} {n:Nat} {x:Str},(x,NameKind.cell)∈names->∃ c,(cellsFrom n names []).lookup x=some c
 | (m,k)::r,n,x,h=>by
  unfold cellsFrom;rcases yB.mp h with e | e
  ·cases e;rw [yF (show (NameKind.cell==NameKind.cell)=true from rfl),jt,xr]
   cases q:(cellsFrom (n + 1) r []).lookup m with
   | some c=>exact ⟨c,rfl⟩
   | none=>exact ⟨n,by show List.lookup m [(m,n)]=some n;rw [xO,xP]⟩
  ·split
   ·rw [jt,xr];obtain ⟨c,hc⟩:=qaD (n:=n + 1) e;exact ⟨c,by rw [hc];rfl⟩
   ·exact qaD e
theorem qbs:∀ {names:List (Str×NameKind)} {n:Nat} {x:Str} {c:Addr},(x,c)∈cellsFrom n names []->(x,NameKind.cell)∈names
 | (m,k)::r,n,x,c,h=>by
  unfold cellsFrom at h;split at h
  ·rename_i hk
   rw [jt] at h;rcases yz.mp h with z | z
   ·exact yJ _ (qbs z)
   ·have e:(x,c)=(m,n):=yy.mp z;cases e;rw [Yo.mp hk];exact yZ
  ·exact yJ _ (qbs h)
theorem qbt (h:(cellsFrom n names acc).lookup x=some c):(x,c)∈cellsFrom n names []\/acc.lookup x=some c:=by
 rw [jt,xr] at h
 cases e:(cellsFrom n names []).lookup x with
 | some d=>rw [e] at h;cases h;exact .inl (mem_of_lookup e)
 | none=>rw [e] at h;exact .inr h
theorem cells_some (h:(x,NameKind.cell)∈names\/∃ c,acc.lookup x=some c):∃ c,(cellsFrom n names acc).lookup x=some c:=by
 rw [jt,xr]
 cases e:(cellsFrom n names []).lookup x with
 | some d=>exact ⟨d,rfl⟩
 | none =>
  rcases h with z | ⟨c,hc⟩
  ·obtain ⟨d,hd⟩:=qaD (n:=n) z;rw [e] at hd;cases hd
  ·exact ⟨c,hc⟩
section
variable {M:Model} {A:Around} {E:Value->Shared->Prop} {s:Shared}
theorem newEnvK {globals:Addr} {closure:List (Str×Addr)} {qual:Str} {func:Option Addr} {code:Value} {outer:Env} {builtins:Addr} {Q:Env->Shared->Prop}
  (hQ:Q (newEnv scope s.heap.objs.size globals (cellsFrom (s.heap.objs.size + 1) scope.names closure) qual func code (some outer) builtins) { s with heap:=pushCells (s.heap.push { cls:=.type "dict",data:=.dict #[] }) scope.names }) :
  wpAny M A (newFunctionEnv scope globals closure [] qual func code (some outer) builtins) Q E s:=by
 simp only [newFunctionEnv,Option.isSome_some,Xz];refine yr (wpAny_alloc ?_);refine yr (wpAny_layCells _ (fun name kind cells=>by cases hkc:kind==NameKind.cell<;>simp [hkc]) _ _ _ _ ?_);rw [show ({ s with heap:=s.heap.push { cls:=.type "dict",data:=.dict #[] } }:Shared).heap.objs.size=s.heap.objs.size + 1 from xq ..];rw [kO];exact yr (yx (yx hQ))
end
structure CompOk (sc scope:Scope):Prop where
 kind:scope.kind=.function
 cel:∀ y∈scope.names,y.2=.cell->scope.names.lookup y.1=some .cell
 loc:∀ y∈scope.names,y.2=.local->scope.names.lookup y.1=some .local
 free:∀ y∈scope.names,y.2=.free->sc.names.lookup y.1=some .cell\/sc.names.lookup y.1=some .free
 once:∀ y∈scope.names,y.2=.free->scope.names.lookup y.1=some .free
noncomputable def qeB (sc scope:Scope):Bool:=decide (scope.kind=.function)&&scope.names.all fun y=>match y.2 with
 | .local=>scope.names.lookup y.1==some .local
 | .free=>(sc.names.lookup y.1==some .cell||sc.names.lookup y.1==some .free)&&scope.names.lookup y.1==some .free
 | .cell=>scope.names.lookup y.1==some .cell
 | _=>true
theorem qdt (h:qeB sc scope=true):CompOk sc scope:=by
 unfold qeB at h;rw [Ye] at h;have ha:=YW.mp h.2;refine ⟨yk h.1,fun y hy e=>?_,fun y hy e=>?_,fun y hy e=>?_,fun y hy e=>?_⟩
 ·have:=ha y hy;rw [e] at this;exact Yo.mp this
 ·have:=ha y hy;rw [e] at this;exact Yo.mp this
 ·have:=ha y hy;rw [e,Ye,xi] at this;exact this.1.imp Yo.mp Yo.mp
 ·have:=ha y hy;rw [e,Ye] at this;exact Yo.mp this.2
noncomputable def qfW (nl:Nat) (ixs:List Nat) (N XN:List Str) (names:List (Str×NameKind)):Bool:=(List.range ixs.length).all fun k=>match ixs[k]?,N[nl + k]? with
 | some j,some x=>XN[j]?==some x&&names.any fun y=>y.1==x&&y.2==.free
 | _,_=>true
theorem qd4 {XN:List Str} (h:qfW nl ixs N XN names=true) (k j:Nat) (x:Str) (h1:ixs[k]?=some j) (h2:N[nl + k]?=some x):XN[j]?=some x/\(x,NameKind.free)∈names:=by
 have hk:k < ixs.length:=(yc.mp h1).1;have:=YW.mp h k (Yw.mpr hk);rw [h1,h2] at this;simp only [Ye] at this;refine ⟨Yo.mp this.1,?_⟩;obtain ⟨⟨n,kd⟩,hy,e⟩:=YX.mp this.2;rw [Ye] at e;have e1:n=x:=Yo.mp e.1;have e2:kd=.free:=Yo.mp e.2;subst e1 e2;exact hy
noncomputable def qdU (nl:Nat) (ixs:List Nat) (σ:St):St:=List.replicate nl none++ixs.map fun j=>(σ[j]?).getD none
theorem capS_len (nl:Nat) (ixs:List Nat) (σ:St):(qdU nl ixs σ).length=nl + ixs.length:=by
 unfold qdU;rw [yt,YD,ya]
theorem qdu {i:Nat} (h:(qdU nl ixs σ)[i]?=some (some v)):nl<=i/\∃ j,ixs[i - nl]?=some j/\σ[j]?=some (some v):=by
 unfold qdU at h;by_cases hi:i < nl
 ·rw [Yc (by rw [YD];exact hi),xN] at h;split at h<;>cases h
 ·rw [yI (by rw [YD];omega),YD,yd] at h;refine ⟨by omega,?_⟩
  cases e:ixs[i - nl]? with
  | none=>rw [e] at h;cases h
  | some j =>
   rw [e] at h;have h':(σ[j]?).getD none=some v:=ym h
   cases q:σ[j]? with
   | none=>rw [q] at h';cases h'
   | some u =>
    rw [q] at h';exact ⟨j,rfl,by rw [q];exact congrArg some h'⟩
noncomputable def qeC (env:Env) (y:Str×NameKind):Str×NameKind:=if (y.2==NameKind.free&&env.scope.kind==.function&&env.kindOf y.1==some .cell)=true then (y.1,NameKind.cell) else (y.1,y.2)
theorem relF_fst (env:Env) (y:Str×NameKind):(qeC env y).1=y.1:=by unfold qeC;split<;>rfl
theorem relF_snd (env:Env) (y:Str×NameKind):(qeC env y).2=y.2\/((qeC env y).2=.cell/\y.2=.free):=by
 unfold qeC;split
 ·rename_i h
  rw [Ye,Ye] at h;exact .inr ⟨rfl,Yo.mp h.1.1⟩
 ·exact .inl rfl
theorem zf:∀ {names:List (Str×NameKind)} {x:Str} {k:NameKind},(names.map (qeC env)).lookup x=some k->∃ k0,names.lookup x=some k0/\(x,k0)∈names/\(k=k0\/(k=.cell/\k0=.free))
 | [],_,_,h=>by cases h
 | (n,k1)::r,x,k,h=>by
  rw [Yy,show qeC env (n,k1)=((qeC env (n,k1)).1,(qeC env (n,k1)).2) from rfl,xO,relF_fst] at h;rw [xO]
  cases hx:x==n with
  | true =>
   have e:x=n:=Yo.mp hx;subst e;have hx':(x==(x,k1).1)=true:=hx;rw [hx'] at h;have h':=ym h;refine ⟨k1,rfl,yZ,?_⟩;rcases relF_snd env (x,k1) with z | ⟨z1,z2⟩
   ·exact .inl (h'.symm.trans z)
   ·exact .inr ⟨h'.symm.trans z1,z2⟩
  | false =>
   have hx':(x==(n,k1).1)=false:=hx;rw [hx'] at h;obtain ⟨k0,e1,e2,e3⟩:=zf h;exact ⟨k0,e1,yJ _ e2,e3⟩
section
variable {X:Cx} {pins:List (Addr×Obj)} {σ:St} {H:Hp} {s:Shared}
theorem comp_free_of {cl:List (Str×Addr)} (h:(compEnvC scope cl C X.env).kindOf x=some .cell\/(compEnvC scope cl C X.env).kindOf x=some .free):(x,NameKind.cell)∈scope.names\/(x,NameKind.free)∈scope.names:=by
 rcases h with h | h
 ·obtain ⟨k0,_,hm,e | ⟨_,e⟩⟩:=zf (env:=X.env) (names:=scope.names) h
  ·rw [<- e] at hm;exact .inl hm
  ·rw [e] at hm;exact .inr hm
 ·obtain ⟨k0,_,hm,e | ⟨e,_⟩⟩:=zf (env:=X.env) (names:=scope.names) h
  ·rw [<- e] at hm;exact .inr hm
  ·cases e
theorem Inv.comp {ob:Obj} {h1:Heap} {tk:Nat} (I:Inv X pins σ H s) (O:CompOk X.env.scope scope)
  (hN:N.length=nl + ixs.length) (hcap:∀ (k j:Nat) (x:Str),ixs[k]?=some j->N[nl + k]?=some x->X.N[j]?=some x/\(x,NameKind.free)∈scope.names)
  (hf:∀ b∈fp,qcQ X pins H b) (hfl:∀ b∈fp,b < s.heap.objs.size) (hC:s.heap.objs.size<=C) (hD:s.heap.objs.size<=D) (hDC:D≠C) (hns:h1.Ns C fun _=>none) (k:∀ b o,s.heap.get? b=some o->h1.get? b=some o)
  (hob:h1.get? D=some ob) (hcl:∀ v,ob.data≠.cell v) (hk:CellsOk h1 (C + 1) (cellsFrom (C + 1) scope.names [])):Inv (X.comp N scope C s H fp) [(D,ob)] (qdU nl ixs σ) H { s with heap:=h1,toks:=tk }:=by
 have cells:∀ x c,(qN X.env scope.names []).lookup x=some c->X.env.cells.lookup x=some c/\(x,NameKind.free)∈scope.names:=fun x c h=>by
  rcases zE h with ⟨h1,h2⟩ | h1
  ·obtain ⟨c',hc'⟩:=I.ok.has x (by
    rcases O.free _ h1 rfl with z | z
    ·exact .inl z
    ·exact .inr z)
   rw [hc'] at h2;exact ⟨by rw [hc',h2];rfl,h1⟩
  ·cases h1
 have big:∀ c:Addr,C + 1<=c->s.heap.objs.size<=c:=fun c h=>yi hC (Nat.le_of_succ_le h);have no:∀ {P:Prop} {c:Addr},C + 1<=c->c < s.heap.objs.size->P:=fun h g=>absurd (yj g (big _ h)) (Yx _)
 have all:∀ x c,(cellsFrom (C + 1) scope.names (qN X.env scope.names [])).lookup x=some c->((x,c)∈cellsFrom (C + 1) scope.names []/\C + 1<=c/\h1.IsCell c none)\/(X.env.cells.lookup x=some c/\c < s.heap.objs.size):=fun x c h=>by
  rcases qbt h with z | z
  ·exact .inl ⟨z,(hk.empty _ _ z).2,(hk.empty _ _ z).1⟩
  ·obtain ⟨_,q⟩:=I.cell x c (cells x c z).1;exact .inr ⟨(cells x c z).1,q.lt⟩
 refine ⟨⟨I.ok.mod,O.kind,I.ok.glob,I.ok.blt,hC,fun x y c h1 h2=>?inj,fun x hx=>cells_some ((comp_free_of hx).imp id zF),fun x c z h=>?cab,I.ok.hd,I.ok.frames,.inl rfl,
   fun b hb=>⟨yN (yj (hfl b hb) hC),fun x c e=>?exf⟩,I.bs,yi I.ok.bsz I.sz,fun b o e hb=>?_,fun b hb z=>?_,I.stack,I.stkFree⟩,
  rfl,I.bare,Un.kept k,⟨_,hns,fun i x v e1 e2 e3=>?_⟩,fun x c e=>?_,I.hok.fresh hC,fun x c e=>?fre,fun p hp=>?_,I.hok.kept k,?_⟩
 case inj =>
  rcases all x c h1 with ⟨a1,a2,_⟩ | ⟨a1,a2⟩<;>rcases all y c h2 with ⟨b1,b2,_⟩ | ⟨b1,b2⟩
  ·exact name_of_addr hk.apart a1 b1
  ·exact no a2 b2
  ·exact no b2 a2
  ·exact I.ok.inj x y c a1 b1
 case cab =>
  rcases all x c h with ⟨_,a2,_⟩ | ⟨a1,a2⟩
  ·exact big _ a2
  ·exfalso;obtain ⟨d,hd⟩:=qaD (n:=C + 1) (mem_of_lookup (Yo.mp z));have h:(cellsFrom (C + 1) scope.names (qN X.env scope.names [])).lookup x=some c:=h;rw [jt,xr,hd] at h;cases h;exact no (hk.empty _ _ (mem_of_lookup hd)).2 a2
 case exf =>
  rcases all x c e with ⟨_,a2,_⟩ | ⟨a1,_⟩
  ·exact fun z=>no a2 (by rw [z];exact hfl b hb)
  ·exact (hf b hb).2.2.2.2.1 x c a1
 case fre =>
  rcases all x c e with ⟨_,a2,_⟩ | ⟨a1,_⟩
  ·exact I.hok.fresh (big _ a2)
  ·exact I.freeC x c a1
 ·rcases (hf b hb).2.2.2.1 with z | z
  ·exact I.ok.noex b o e z
  ·have:=(I.ok.bs b o e).1;exact absurd (yj (yK this) z) (Yx _)
 ·rcases yB.mp (I.stkSub b z) with e | e
  ·exact (hf b hb).2.1 e
  ·exact (hf b hb).2.2.1 e
 ·obtain ⟨hi,j,hj,hv⟩:=qdu e2;obtain ⟨hx,hfr⟩:=hcap (i - nl) j x hj (by rw [Nat.add_sub_cancel' hi];exact e1);obtain ⟨m,hn,hl⟩:=I.loc;have hk:=O.free _ hfr rfl
  obtain ⟨u,ru,lk⟩:=hl j x v hx hv (by
   rcases hk with z | z
   ·exact .inr (.inl z)
   ·exact .inr (.inr z))
  refine ⟨u,ru,?_⟩;rcases lk with ⟨hk2,_⟩ | ⟨_,c,hc,hcell⟩
  ·have hk2':X.env.scope.names.lookup x=some .local:=hk2;rcases hk with z | z<;>· rw [z] at hk2';cases hk2'
  ·obtain ⟨c',hc'⟩:=zF (env:=X.env) (acc:=[]) hfr
   have e:c'=c:=by
    have:=(cells x c' hc').1;rw [hc] at this;exact (ym this).symm
   subst e
   have hc2:(cellsFrom (C + 1) scope.names (qN X.env scope.names [])).lookup x=some c':=by
    rw [jt,xr]
    cases q:(cellsFrom (C + 1) scope.names []).lookup x with
    | none=>exact hc'
    | some d=>have:=O.cel _ (qbs (mem_of_lookup q)) rfl;rw [O.once _ hfr rfl] at this;cases this
   refine .inr ⟨?_,c',hc2,?_⟩
   ·rcases e3 with z | z | z
    ·obtain ⟨k0,z3,_,e | ⟨e,_⟩⟩:=zf (env:=X.env) (names:=scope.names) z
     ·rw [O.once _ hfr rfl] at z3;cases z3;cases e
     ·cases e
    ·exact .inl z
    ·exact .inr z
   ·obtain ⟨o,ho,hd⟩:=hcell;exact ⟨o,k _ _ ho,hd⟩
 ·rcases all x c e with ⟨_,_,a3⟩ | ⟨a1,_⟩
  ·exact ⟨none,a3⟩
  ·obtain ⟨v,o,ho,hd⟩:=I.cell x c a1;exact ⟨v,o,k _ _ ho,hd⟩
 ·have e:p=(D,ob):=by simpa using hp
  subst e;refine ⟨hob,I.hok.fresh hD,hDC,fun z=>?_,hcl⟩;rcases yB.mp (I.stkSub D z) with e | e
  ·exact absurd (show X.env.locals < D from yj I.lt hD) (by rw [e];exact Yx _)
  ·exact I.nofs hD e
 ·show (qdU nl ixs σ).length=N.length;rw [capS_len,hN]
theorem Inv.compBack {s':Shared} {H':Hp} {σ':St} (I:Inv X pins σ H s) (hf:∀ b∈fp,qcQ X pins H b) (hC:s.heap.objs.size<=C) (hD:s.heap.objs.size<=D)
  (J:Inv (X.comp N scope C s H fp) [(D,{ cls:=.type "list",data:=.seq its.toArray n })] σ' H' s') (hv:Vals ys its) (hz:ys.length<=sizeLine):Inv X pins σ (upd H' D (.lst ys)) s':=by
 obtain ⟨pD,nD,neD,_,_⟩:=J.pin (D,{ cls:=.type "list",data:=.seq its.toArray n }) (yO _ (yy.mpr rfl));have ltD:∀ b o,s.heap.get? b=some o->b≠D:=fun b o e=>yN (yj (yK e) hD);have J0:=J.base;refine I.call' (ch:=fp) J.os ⟨J0.keep,J0.slot,fun b o e n hx=>?_,J0.there,fun b xs e=>?_,fun b o u e=>?_,fun b ps e=>?_⟩ (fun b u e=>?_) J.bare fun b hb=>⟨(hf b hb).2.2.2.1,(hf b hb).2.1,(hf b hb).2.2.2.2.1,(hf b hb).2.2.2.2.2⟩
 ·rw [qf (ltD b o e)];exact J0.free b o e n hx
 ·have q:=J0.tups b xs e;rw [qf (qD q nD)];exact q
 ·have q:=J0.frzs b o u e;rw [qf (qD q nD)];exact q
 ·obtain ⟨more,q⟩:=J0.tbls b ps e;exact ⟨more,by rw [qf (qD q nD)];exact q⟩
 ·by_cases hb:b=D
  ·subst hb;rw [qb] at e;cases e;exact ⟨hz,its,n,hv,pD⟩
  ·rw [qf hb] at e;exact (J.hok b u e).stay (fun c v _ q=>q) (fun c q=>by rw [qf (qD q nD)];exact q) fun c xs q=>by rw [qf (qD q nD)];exact q
end
noncomputable def qge:TT:=fun _ H Q=>Q true H
noncomputable def qe4 (wi:TI) (g:TG) (tc:TT) (te:TE) (nl:Nat) (ixs:List Nat):TE:=fun σ H Q=>wi σ H fun J H1 =>
 ∃ W:Nat->Nat->List V->Hp->Prop,(∃ m,W 0 m [] H1)/\∀ i m ys H,W i m ys H ->
  (J.stop i H/\ys.length<=sizeLine/\∀ p,H p=none->Q (.ref p) (upd H p (.lst ys))) \/
  (J.go i H/\∃ M:List V->Hp->Prop,(∀ ys' H',M ys' H'->∃ m',m' < m/\W (i + 1) m' ys' H')/\∀ x H',J.yld i H x H'->g x (qdU nl ixs σ) H' fun σ2 H2=>tc σ2 H2 fun b H3 =>
   if b=true then te σ2 H3 fun v H4=>ys.length < sizeLine/\M (ys++[v]) H4 else M ys H3)
noncomputable def qd5 (nl:Nat) (g:TG):Prop:=∀ x σ H Q,g x σ H Q->g x σ H fun σ2 H2=>Q σ2 H2/\σ2.length=σ.length/\∀ i,nl<=i->σ2[i]?=σ[i]?
theorem qS {i:Nat} (h:i < nl:=by decide):qd5 nl (qbY i):=fun x σ H Q q=>⟨q,xx ..,fun j hj=>xz (by omega)⟩
noncomputable def qfv (X:Cx) (ifs:List Expr) (tc:TT):Prop:=
 ∀ (pins:List (Addr×Obj)) (s:Shared) (σ:St) (H:Hp) (Q:Bool->Hp->Prop),Inv X pins σ H s->tc σ H Q ->
  wpAny (model X.prog X.w) X.A (forIn ifs true fun c r=>if r=true then do let ok <- isTrue c X.env (eval c X.env);pure (ForInStep.yield ok) else pure (ForInStep.yield r)) (TP X pins σ Q) X.xe s
theorem j0:qfv X [] qge:=fun pins s σ H Q I h=>wpAny_tests_nil ⟨H,I,h⟩
theorem q9 {c:Expr} (h:PT X c tc):qfv X [c] tc:=fun pins s σ H Q I q=>wpAny_tests_one (h pins s σ H Q I q)
section
variable {X:Cx} {pins:List (Addr×Obj)} {σ:St} {H:Hp} {s:Shared}
theorem qbR {tn:Nat->Heap->Prop} {J:It} {Q:V->Hp->Prop}
  {RR:Value->Addr->Result->Shared->Prop} (I:Inv X pins σ H s) (hc:X.calm=true) (O:CompOk X.env.scope scope)
  (hN:N.length=nl + ixs.length) (hcap:∀ (k j:Nat) (x:Str),ixs[k]?=some j->N[nl + k]?=some x->X.N[j]?=some x/\(x,NameKind.free)∈scope.names)
  (T:Turn X.prog X.w X.K tg J fp it tn) (st:tn 0 s.heap) (hf:∀ b∈fp,qcQ X pins H b)
  (hg:∀ C s0 H0 ex,PG (X.comp N scope C s0 H0 ex) tg g) (gk:qd5 nl g) (hi:∀ C s0 H0 ex,qfv (X.comp N scope C s0 H0 ex) ifs tc) (he:∀ C s0 H0 ex,PE (X.comp N scope C s0 H0 ex) elt te)
  (h:∃ W:Nat->Nat->List V->Hp->Prop,(∃ m,W 0 m [] H)/\∀ i m ys H,W i m ys H ->
   (J.stop i H/\ys.length<=sizeLine/\∀ p,H p=none->Q (.ref p) (upd H p (.lst ys))) \/
   (J.go i H/\∃ M:List V->Hp->Prop,(∀ ys' H',M ys' H'->∃ m',m' < m/\W (i + 1) m' ys' H')/\∀ x H',J.yld i H x H'->g x (qdU nl ixs σ) H' fun σ2 H2=>tc σ2 H2 fun b H3 =>
    if b=true then te σ2 H3 fun v H4=>ys.length < sizeLine/\M (ys++[v]) H4 else M ys H3))
  (hRR:∀ (D C:Addr) (s':Shared) (H':Hp) (σ':St) (ys:List V) (its:List Value) (n:Nat),s.heap.objs.size<=C->s.heap.objs.size<=D->Inv (X.comp N scope C s H fp) [(D,{ cls:=.type "list",data:=.seq its.toArray n })] σ' H' s'->Vals ys its->ys.length<=sizeLine ->
   (∀ p,H' p=none->Q (.ref p) (upd H' p (.lst ys)))->RR (.ref D) C (.ok .next) s') :
  wpAny (model X.prog X.w) X.A (newList []) (fun acc s3=>wpAny (model X.prog X.w) X.A (newFunctionEnv scope X.env.globals (qN X.env scope.names []) [] X.env.qual none .none (some X.env)) (fun cenv s4 =>
   codeAny (model X.prog X.w) X.A (.compStart (.ListComp elt [⟨tg,iter,ifs,0⟩] scope pos) 0 (.ref it) acc { cenv with scope:=relabel scope X.env }) (RR acc cenv.locals) s4) E s3) E s:=by
 obtain ⟨W,⟨m0,w0⟩,turn⟩:=h;refine Xc (newEnvK ?_);dsimp only;generalize hH2:s.heap.push { cls:=.type "list",dict:=none,data:=.seq ([]:List Value).toArray }=H2;have hns1:(pushCells (H2.push { cls:=.type "dict",data:=.dict #[] }) scope.names).Ns H2.objs.size fun _=>none:=(Heap.Ns.new H2 (.type "dict")).keeps (pushCells_keeps _ _);have hk1:=cellsFrom_ok scope.names (H2.push { cls:=.type "dict",data:=.dict #[] }) (H2.objs.size + 1) [] ⟨fun _ _ hm=>(nomatch hm),List.Pairwise.nil⟩ (by rw [xq];exact yh _);rw [xq] at hk1;have kp1:∀ b o,H2.get? b=some o->(pushCells (H2.push { cls:=.type "dict",data:=.dict #[] }) scope.names).get? b=some o:=fun b o e=>pushCells_keeps _ _ b o (yw _ e);generalize pushCells (H2.push { cls:=.type "dict",data:=.dict #[] }) scope.names=h1 at hns1 hk1 kp1 ⊢;have hC:H2.objs.size=s.heap.objs.size + 1:=by rw [<- hH2,xq]
 have hDC:s.heap.objs.size≠H2.objs.size:=by rw [hC];exact yN (Xk _)
 have hCle:s.heap.objs.size<=H2.objs.size:=by rw [hC];exact Xg _
 have below:∀ b,b < s.heap.objs.size->b≠H2.objs.size/\b≠s.heap.objs.size:=fun b hb=>⟨by rw [hC];exact yN (Nat.lt_succ_of_lt hb),yN hb⟩;have old:∀ b o,s.heap.get? b=some o->h1.get? b=some o:=fun b o e=>kp1 b o (hH2 ▸ yw _ e);have hacc:h1.get? s.heap.objs.size=some { cls:=.type "list",data:=.seq ([]:List Value).toArray }:=kp1 _ _ (hH2 ▸ yU _ rfl)
 have hfl:∀ b∈fp,b < s.heap.objs.size:=fun b hb=>by
  obtain ⟨o,ho,_⟩:=T.obj 0 _ st b hb;exact yK ho
 have loop:∀ s3:Shared,s3={ s with heap:=h1 } ->
   codeAny (model X.prog X.w) X.A (.compLoop (.ListComp elt [⟨tg,iter,ifs,0⟩] scope pos) 0 (.ref it) (.ref s.heap.objs.size) (compEnvC scope (cellsFrom (H2.objs.size + 1) scope.names (qN X.env scope.names [])) H2.objs.size X.env)) (RR (.ref s.heap.objs.size) H2.objs.size) s3:=by
  rintro s3 rfl;have I0:=I.comp (N:=N) (C:=H2.objs.size) (D:=s.heap.objs.size) (h1:=h1) (tk:=s.toks) O hN hcap hf hfl hCle (yh _) hDC hns1 old hacc (fun v z=>by cases z) hk1
  have stat:∀ {H':Hp} {σ':St} {s':Shared} {pl:List (Addr×Obj)},Inv (X.comp N scope H2.objs.size s H fp) pl σ' H' s'->(∀ p∈pl,p.1=s.heap.objs.size)->(∀ b∈fp,H' b=none)->∀ b∈fp,qcQ (X.comp N scope H2.objs.size s H fp) pl H' b:=fun {H' σ' s' pl} J hpl hn b hb =>
   ⟨hn b hb,(below b (hfl b hb)).1,fun z=>(by
     rcases yB.mp (I.stkSub b z) with e | e
     ·exact (hf b hb).2.1 e
     ·exact (hf b hb).2.2.1 e),.inl hb,J.ok.exf b hb |>.2,fun p hp z=>by
    have e:=hpl p (by simpa using hp);rw [e] at z;exact (below b (hfl b hb)).2 z.symm⟩
  refine compLoop_own (fun k s'=>∃ i H' ys its n,Inv (X.comp N scope H2.objs.size s H fp) [(s.heap.objs.size,{ cls:=.type "list",data:=.seq its.toArray n })] (qdU nl ixs σ) H' s'/\tn i s'.heap/\(∀ b∈fp,H' b=none)/\Vals ys its/\W i k ys H') ?_ m0
   ⟨0,H,[],[],0,I0,T.keep _ _ _ st fun b _ o e=>old b o e,fun b hb=>(hf b hb).1,.nil,w0⟩
  rintro k s' ⟨i,H',ys,its,n,J1,st1,fr1,v1,w1⟩
  have one:∀ p∈[((s.heap.objs.size,{ cls:=.type "list",data:=.seq its.toArray n }):Addr×Obj)],p.1=s.heap.objs.size:=fun p hp=>by
   have e:p=_:=yy.mp hp;rw [e]
  rcases turn i k ys H' w1 with ⟨stop,hz,q⟩ | ⟨go,M,hM,step⟩
  ·refine thn (T.done (X.comp N scope H2.objs.size s H fp) rfl rfl rfl hc i _ s' _ H' _ J1 (stat J1 one fr1) st1 stop) fun r s4 ⟨hr,J4⟩=>?_;subst hr;exact hRR _ _ s4 H' _ ys its n hCle (yh _) J4 v1 hz q
  ·refine thn (T.item (X.comp N scope H2.objs.size s H fp) rfl rfl rfl hc i _ s' _ H' _ J1 (stat J1 one fr1) st1 go) fun r s4 ⟨u,hr,h4⟩=>?_;subst hr;refine thn h4 fun _ s5 ⟨x,H5,J5,r5,y5,st5,fr5⟩=>?_;have J5':=J5.pinned (stat J5 one fr5) (T.obj _ _ st5);refine thn (hg _ _ _ _ _ s5 _ H5 x u _ J5' r5 (gk _ _ _ _ (step x H5 y5))) fun _ s6 ⟨σ6,H6,J6,q6,l6,k6⟩=>?_;refine thn (hi _ _ _ _ _ s6 σ6 H6 _ J6 q6) fun ok s7 ⟨H7,J7,q7⟩=>?_;have again:∀ {s8:Shared} {H8:Hp} {ys':List V} {k':Nat},Inv (X.comp N scope H2.objs.size s H fp) ([((s.heap.objs.size,{ cls:=.type "list",data:=.seq its.toArray n }):Addr×Obj)]++qcl fp s5.heap) σ6 H8 s8 ->
     (∀ b o,b≠s.heap.objs.size->s8.heap.get? b=some o->s8.heap.get? b=some o)->tn (i + 1) s8.heap/\∀ b∈fp,H8 b=none:=fun {s8 H8 ys' k'} J8 _=>by
    refine ⟨T.keep _ _ _ st5 fun b hb o e=>(J8.pin (b,o) (yO _ (yO _ (qaa hb e)))).1,fun b hb=>?_⟩;obtain ⟨o,e,d⟩:=T.obj _ _ st5 b hb;exact (J8.pin (b,o) (yO _ (yO _ (qaa hb e)))).2.1
   have wk:∀ (j:Nat) v,(qdU nl ixs σ)[j]?=some (some v)->σ6[j]?=some (some v):=fun j v e=>by
    obtain ⟨hj,_⟩:=qdu e;rw [k6 j hj];exact e
   cases ok with
   | false =>
    rw [yC Yl] at q7 ⊢;obtain ⟨m',hm,w7⟩:=hM _ _ q7;obtain ⟨st7,fr7⟩:=again (ys':=ys) (k':=0) J7 (fun _ _ _ e=>e);exact ⟨m',hm,i + 1,H7,ys,its,n,J7.unpinned.weak l6.symm wk,st7,fr7,v1,w7⟩
   | true =>
    rw [yF rfl] at q7 ⊢;refine thn (he _ _ _ _ _ s7 σ6 H7 _ J7 q7) fun y s8 ⟨v,H8,J8,r8,hlt,mq⟩=>?_;obtain ⟨m',hm,w8⟩:=hM _ _ mq;obtain ⟨st8,fr8⟩:=again (ys':=ys) (k':=0) J8 (fun _ _ _ e=>e);have J9:=J8.unpinned;obtain ⟨pD,nD,neD,nfD,_⟩:=J9.pin (s.heap.objs.size,{ cls:=.type "list",data:=.seq its.toArray n }) (yO _ (yy.mpr rfl));refine wpAny_list_append_plain (hsz:=by rw [yv,<- v1.length];omega) ⟨n,pD⟩ fun h9 hl9 hs9=>?_;obtain ⟨n9,hl9⟩:=hl9;have e9:(its.toArray.push y)=(its++[y]).toArray:=by simp
    rw [e9] at hl9
    have Ja:Inv (X.comp N scope H2.objs.size s H fp) [] (qdU nl ixs σ) H8 { s8 with heap:=h9,toks:=s8.toks }:=
     ((J9.pins_of (pins':=[]) fun p hp=>absurd hp (by simp)).turned (it:=s.heap.objs.size) (h':=h9) (t':=s8.toks) (fun b o hb e=>(hs9.2 b hb).trans e) nD neD (.inr (yh _))
      (fun x c e z=>by
       rcases qbt e with w | e
       ·have:=(hk1.empty _ _ w).2;rw [z,hC] at this;exact absurd (yi (Xg _) this) (Nat.not_succ_le_self _)
       have:=zE e;rcases this with ⟨hfr,hcc⟩ | hcc
       ·obtain ⟨c',hc'⟩:=I.ok.has x (by
         rcases O.free _ hfr rfl with q | q
         ·exact .inl q
         ·exact .inr q)
        rw [hc'] at hcc;have hcc':c=c':=hcc;obtain ⟨_,q⟩:=I.cell x c' hc';rw [<- hcc',z] at q;exact absurd q.lt (Yx _)
       ·cases hcc) (fun p hp=>absurd hp (by simp))).weak l6.symm wk
    refine ⟨m',hm,i + 1,H8,ys++[v],its++[y],n9,Ja.pins_of fun p hp=>?_,?_,fr8,v1.append (.cons r8 .nil),w8⟩
    ·have e:p=_:=yy.mp hp;subst e;exact ⟨hl9,nD,neD,nfD,fun v z=>by cases z⟩
    ·exact T.keep _ _ _ st8 fun b hb o e=>(hs9.2 b (below b (hfl b hb)).2).trans e
 exact codeAny_compStart_list (loop _ rfl) (T.self _ 0 _ _ _ (T.keep _ _ _ st fun b _ o e=>old b o e) (loop _ rfl))
end
section
variable {X:Cx} {tg elt iter:Expr} {ifs:List Expr} {scope:Scope} {pos:Pos} {N:List Str} {nl:Nat} {ixs:List Nat} {wi:TI} {g:TG} {tc:TT} {te:TE}
theorem jg {XN:List Str} (N:List Str) (nl:Nat) (ixs:List Nat) (hsc:X.env.scope=sc) (hXN:X.N=XN) (hc:X.calm=true) (O':qeB sc scope=true) (hN:N.length=nl + ixs.length) (hcap':qfW nl ixs N XN scope.names=true)
  (hi:PI X tg iter wi) (hg:∀ C s0 H0 ex,PG (X.comp N scope C s0 H0 ex) tg g) (gk:qd5 nl g) (ht:∀ C s0 H0 ex,qfv (X.comp N scope C s0 H0 ex) ifs tc) (he:∀ C s0 H0 ex,PE (X.comp N scope C s0 H0 ex) elt te)
  (hs:∀ x,foldedSetIterable iter X.env x=pure x:=by intro _;rfl):PE X (.ListComp elt [⟨tg,iter,ifs,0⟩] scope pos) (qe4 wi g tc te nl ixs):=by
 intro pins s σ H Q I h;subst hsc hXN;have O:=qdt O';have hcap:=qd4 hcap';rw [eval_ListComp]
 have hcl:=qaC (scope:=scope) (env:=X.env) fun n hn=>I.ok.has n (by
  rcases O.free _ hn rfl with z | z
  ·exact .inl z
  ·exact .inr z)
 refine wpAny_comprehension_free (use:=none) rfl hs hcl O.kind O.loc (thn (hi pins s σ H _ I h) fun v s1 h1=>thn h1 fun itv s2 h2=>?_);obtain ⟨it,fp,tn,J,H2,e,I2,T,st2,f2,hW⟩:=h2;subst e;refine qbR (Q:=Q) (RR:=fun acc C=>compPost (model X.prog X.w) X.A X.xe none (EP X pins σ Q) acc C) I2 hc O hN hcap T st2 f2 hg gk ht he hW ?_;intro D C s' H' σ' ys its n hC hD J' hv hz q;obtain ⟨m,hn,_⟩:=id J'.loc;have B:=I2.compBack f2 hC hD J' hv hz;obtain ⟨_,nD,neD,_,_⟩:=J'.pin (D,{ cls:=.type "list",data:=.seq its.toArray n }) (yO _ (yy.mpr rfl));refine ⟨m,hn,fun h' sb=>⟨.ref D,_,?_,rfl,q D nD⟩⟩;refine B.turned (it:=C) (h':=h') (t':=s'.toks) (fun b o hb e=>(sb.2 b hb).trans e) ((qf (H:=H') (a:=D) (b:=C) (o:=.lst ys) (Yn neD)).trans J'.free) (Yh (yj I2.lt hC)) (.inr (yi I2.sz hC)) (fun x c e z=>?_) (fun p hp z=>?_)
 ·obtain ⟨_,q⟩:=I2.cell x c e;exact absurd (yj q.lt (by rw [z];exact hC)) (Yx _)
 ·exact absurd (yj (yK (I2.pin p hp).1) (by rw [z];exact hC)) (Yx _)
theorem qaV {i:Nat} {y:Str} {py spos:Pos} {XN:List Str} (N:List Str) (nl:Nat) (ixs:List Nat) (hsc:X.env.scope=sc) (hXN':X.N=XN) (hc:X.calm=true) (O':qeB sc scope=true) (hN:N.length=nl + ixs.length) (hcap':qfW nl ixs N XN scope.names=true)
  (hXN:X.N.Nodup) (hi':X.N[i]?=some y) (hy:X.env.scope.names.lookup y=some .local)
  (hi:PI X tg iter wi) (hg:∀ C s0 H0 ex,PG (X.comp N scope C s0 H0 ex) tg g) (gk:qd5 nl g) (ht:∀ C s0 H0 ex,qfv (X.comp N scope C s0 H0 ex) ifs tc) (he:∀ C s0 H0 ex,PE (X.comp N scope C s0 H0 ex) elt te)
  (hsw:swapsWith (.ListComp elt [⟨tg,iter,ifs,0⟩] scope pos) (some (.Name y py)) spos.line X.env=pure true:=by rfl)
  (hs:∀ x,foldedSetIterable iter X.env x=pure x:=by intro _;rfl):PS X (.Assign [.Name y py] (.ListComp elt [⟨tg,iter,ifs,0⟩] scope pos) spos) (qfp (qe4 wi g tc te nl ixs) (qbY i)):=by
 intro pins s σ H D0 I h;subst hsc hXN';have O:=qdt O';have hcap:=qd4 hcap'
 have hcl:=qaC (scope:=scope) (env:=X.env) fun n hn=>I.ok.has n (by
  rcases O.free _ hn rfl with z | z
  ·exact .inl z
  ·exact .inr z)
 rw [exec_Assign_Name_used _ _ _ _ hsw];refine yr (wpAny_standAt (yr ?_));show wpAny _ X.A (do let _ <- comprehension (.ListComp elt [⟨tg,iter,ifs,0⟩] scope pos) scope X.env _ (newList []) false (eval iter X.env) (some (assign (.Name y py) X.env))) _ _ s;refine yr (YV (wpAny_comprehension_free (use:=some (assign (.Name y py) X.env)) (Q:=fun _ s'=>SP X pins D0 .next s') rfl hs hcl O.kind O.loc
  (thn (hi pins s σ H _ I h) fun v s1 h1=>thn h1 fun itv s2 h2=>?_)) (fun _ s' hq=>yx (yx hq)) fun _ _ e=>e)
 obtain ⟨it,fp,tn,J,H2,e,I2,T,st2,f2,hW⟩:=h2;subst e;refine qbR (Q:=fun v H'=>qbY i v σ H' D0.nx) (RR:=fun acc C=>compPost (model X.prog X.w) X.A X.xe (some (assign (.Name y py) X.env)) (fun _ s'=>SP X pins D0 .next s') acc C) I2 hc O hN hcap T st2 f2 hg gk ht he hW ?_;intro D C s' H' σ' ys its n hC hD J' hv hz q;obtain ⟨m,hn,_⟩:=id J'.loc;have B:=I2.compBack f2 hC hD J' hv hz;obtain ⟨_,nD,neD,_,_⟩:=J'.pin (D,{ cls:=.type "list",data:=.seq its.toArray n }) (yO _ (yy.mpr rfl));show wpAny _ X.A (assign (.Name y py) X.env (.ref D)) _ _ _;refine wpAny_assign_Name (qci (i:=i) (x:=y) (v:=.ref D) B hXN hi' (.inl hy) rfl (fun s'' B' hsb=>?_) (.inr hy));obtain ⟨a,sa,ha⟩:=hsb
 have hCa:C≠a:=by
  rintro rfl;rcases ha with z | z
  ·exact absurd (show X.env.locals < C from yj I2.lt hC) (by rw [z];exact Yx _)
  ·obtain ⟨_,q⟩:=I2.cell y C z;exact absurd (yj q.lt hC) (Yx _)
 refine ⟨m,hn.sameBut sa hCa,fun h' sb=>⟨_,_,?_,q D nD⟩⟩;refine B'.turned (it:=C) (h':=h') (t':=s''.toks) (fun b o hb e=>(sb.2 b hb).trans e) ((qf (H:=H') (a:=D) (b:=C) (o:=.lst ys) (Yn neD)).trans J'.free) (Yh (yj I2.lt hC)) (.inr (yi I2.sz hC)) (fun x c e z=>?_) (fun p hp z=>?_)
 ·obtain ⟨_,q⟩:=I2.cell x c e;exact absurd (yj q.lt (by rw [z];exact hC)) (Yx _)
 ·exact absurd (yj (yK (I2.pin p hp).1) (by rw [z];exact hC)) (Yx _)
end
noncomputable def Its (x:Str):It:=⟨fun i _=>i < x.cps.size,fun i H v H'=>H'=H/\∃ c,x.cps[i]?=some c/\v=.str ⟨#[c]⟩,fun i _=>i=x.cps.size⟩
theorem qdv {K:yg} {t:Tok} (W:∀ A:Around,A.handled=none->Walks P w A it [it] [it] x.cps.size (SignAt x) fun i h=>h.IsStrIter it T x t i)
  (sf:∀ (A:Around) (i:Nat) (s:Shared) (Q:Value->Shared->Prop) (E:Value->Shared->Prop),s.heap.IsStrIter it T x t i->Q (.ref it) s->wpAny (model P w) A (pyIter (.ref it)) Q E s)
  (htg:∀ v,letOwnedTupleGo tg (.ref it) v=pure ()):Turn P w K tg (Its x) [it] it (fun i h=>h.IsStrIter it T x t i) where
 mem:=by simp
 obj:=fun i h st b hb=>by
  have e:b=it:=by simpa using hb
  subst e;obtain ⟨o,e,c,d⟩:=st;exact ⟨o,e,fun v z=>by rw [d] at z;cases z⟩
 keep:=fun i h h' st k=>by
  obtain ⟨o,e,r⟩:=st;exact ⟨o,k it (by simp) o e,r⟩
 item:=by
  intro X hP hw hK hc i pins s σ H E I hf st hg;subst hP hw hK;obtain ⟨f0,f1,f2,f3,f4,f5⟩:=hf it (by simp);refine (W X.A (I.ok.hd hc)).item i s _ _ hg st fun v h' tk hv st' kk=>?_;obtain ⟨c,u,hcx,rfl⟩:=hv;have I1:Inv X pins σ H { s with heap:=h',toks:=tk }:=I.turned (fun b o hb e=>kk b o (by simpa using hb) e) f0 f1 f3 f4 f5;refine ⟨_,rfl,YS (htg _) ⟨.str ⟨#[c]⟩,H,I1,⟨u,rfl⟩,⟨rfl,c,hcx,rfl⟩,st',fun b hb=>(hf b hb).1⟩⟩
 done:=by
  intro X hP hw hK hc i pins s σ H E I hf st hg;subst hP hw hK;obtain ⟨f0,f1,f2,f3,f4,f5⟩:=hf it (by simp);have e:i=x.cps.size:=hg;subst e;exact (W X.A (I.ok.hd hc)).done s _ _ st fun h' tk kk=>⟨rfl,I.turned (fun b o hb e=>kk b o (by simpa using hb) e) f0 f1 f3 f4 f5⟩
 self:=sf
section
variable {X:Cx} {tg:Expr}
end
section
variable {K:yg} {a:Addr} {xs:List V} {g:TG} {tc:TT} {te:TE} {σ':St} {H1:Hp} {Q:V->Hp->Prop}
noncomputable def qd6 (J:It) (g:TG) (tc:TT) (te:TE) (σ':St) (H1:Hp) (Q:V->Hp->Prop):Prop:=
 ∃ W:Nat->Nat->List V->Hp->Prop,(∃ m,W 0 m [] H1)/\∀ i m ys H,W i m ys H ->
   (J.stop i H/\ys.length<=sizeLine/\∀ p,H p=none->Q (.ref p) (upd H p (.lst ys))) \/
   (J.go i H/\∃ M:List V->Hp->Prop,(∀ ys' H',M ys' H'->∃ m',m' < m/\W (i + 1) m' ys' H')/\∀ x H',J.yld i H x H'->g x σ' H' fun σ2 H2=>tc σ2 H2 fun b H3 =>
    if b=true then te σ2 H3 fun v H4=>ys.length < sizeLine/\M (ys++[v]) H4 else M ys H3)
theorem qK (Pv:Nat->List V->Hp->Prop) (h0:Pv 0 [] H1) (hl:∀ i ys H,i<=xs.length->Pv i ys H->SqL K H a xs)
  (hs:∀ i x ys H,xs[i]?=some x->Pv i ys H->g x σ' H fun σ2 H2=>tc σ2 H2 fun b H3=>if b=true then te σ2 H3 fun v H4=>ys.length < sizeLine/\Pv (i + 1) (ys++[v]) H4 else Pv (i + 1) ys H3)
  (hd:∀ ys H,Pv xs.length ys H->ys.length<=sizeLine/\∀ p,H p=none->Q (.ref p) (upd H p (.lst ys))):qd6 (Itl K a) g tc te σ' H1 Q:=by
 refine ⟨fun i m ys H=>m=xs.length - i/\i<=xs.length/\Pv i ys H,⟨xs.length,by simp,YK _,h0⟩,?_⟩;rintro i m ys H ⟨rfl,hi,p⟩;have q:=hl i ys H hi p;by_cases hlt:i < xs.length
 ·refine .inr ⟨⟨xs,xs[i],q,by simp [hlt]⟩,Pv (i + 1),fun ys' H' p'=>⟨xs.length - (i + 1),by omega,rfl,hlt,p'⟩,fun x H' y=>?_⟩;obtain ⟨e,y⟩:=y;subst e;exact hs i x ys _ (y xs q) p
 ·have e:i=xs.length:=by omega
  subst e;exact .inl ⟨⟨xs,q,yh _⟩,hd ys H p⟩
theorem zx {lo:Int} (Pv:Nat->List V->Hp->Prop) (h0:Pv 0 [] H1)
  (hs:∀ i ys H,i < n->Pv i ys H->g (.int (lo + i)) σ' H fun σ2 H2=>tc σ2 H2 fun b H3=>if b=true then te σ2 H3 fun v H4=>ys.length < sizeLine/\Pv (i + 1) (ys++[v]) H4 else Pv (i + 1) ys H3)
  (hd:∀ ys H,Pv n ys H->ys.length<=sizeLine/\∀ p,H p=none->Q (.ref p) (upd H p (.lst ys))):qd6 (Itr lo n) g tc te σ' H1 Q:=by
 refine ⟨fun i m ys H=>m=n - i/\i<=n/\Pv i ys H,⟨n,by simp,YK _,h0⟩,?_⟩;rintro i m ys H ⟨rfl,hi,p⟩;by_cases hlt:i < n
 ·refine .inr ⟨hlt,Pv (i + 1),fun ys' H' p'=>⟨n - (i + 1),by omega,rfl,hlt,p'⟩,fun x H' y=>?_⟩;obtain ⟨e,y⟩:=y;subst e y;exact hs i ys _ hlt p
 ·have e:i=n:=by omega
  subst e;exact .inl ⟨yh _,hd ys H p⟩
theorem comp_str (Pv:Nat->List V->Hp->Prop) (h0:Pv 0 [] H1)
  (hs:∀ i c ys H,x.cps[i]?=some c->Pv i ys H->g (.str ⟨#[c]⟩) σ' H fun σ2 H2=>tc σ2 H2 fun b H3=>if b=true then te σ2 H3 fun v H4=>ys.length < sizeLine/\Pv (i + 1) (ys++[v]) H4 else Pv (i + 1) ys H3)
  (hd:∀ ys H,Pv x.cps.size ys H->ys.length<=sizeLine/\∀ p,H p=none->Q (.ref p) (upd H p (.lst ys))):qd6 (Its x) g tc te σ' H1 Q:=by
 refine ⟨fun i m ys H=>m=x.cps.size - i/\i<=x.cps.size/\Pv i ys H,⟨x.cps.size,by simp,YK _,h0⟩,?_⟩;rintro i m ys H ⟨rfl,hi,p⟩;by_cases hlt:i < x.cps.size
 ·refine .inr ⟨hlt,Pv (i + 1),fun ys' H' p'=>⟨x.cps.size - (i + 1),by omega,rfl,hlt,p'⟩,fun v H' y=>?_⟩;obtain ⟨e,c,hc,y⟩:=y;subst e y;exact hs i c ys _ hc p
 ·have e:i=x.cps.size:=by omega
  subst e;exact .inl ⟨rfl,hd ys H p⟩
end
noncomputable def qbu:V->Option Value
 | .ty n=>some (.type n)
 | .ref a=>some (.ref a)
 | _=>none
theorem qbS {c:Value} (h:qbu y=some c) (r:RelV y u):u=c:=by
 cases y with
 | ty n=>cases h;exact r
 | ref a=>cases h;exact r
 | _=>cases h
section
variable {X:Cx} {pins:List (Addr×Obj)} {σ:St} {H:Hp} {s:Shared}
theorem TyOf.kit {x:V} (I:Inv X pins σ H s) (rx:RelV x u) (ty:TyOf X.K H x t):∃ P:Heap->Prop,PySem.W.KitX X.K u t P/\P s.heap/\u≠.builtin "__main__.__loader__#opaque":=by
 cases ty with
 | non=>cases (show u=Value.none from rx);exact ⟨_,PySem.W.kitx_none,YQ,(fun z=>nomatch z)⟩
 | bl y=>cases (show u=Value.bool y from rx);exact ⟨_,PySem.W.kitx_bool,YQ,(fun z=>nomatch z)⟩
 | int i=>obtain ⟨t,q⟩:=(show ∃ t,u=Value.int i t from rx);cases q;exact ⟨_,PySem.W.kitx_int,YQ,(fun z=>nomatch z)⟩
 | str y=>obtain ⟨t,q⟩:=(show ∃ t,u=Value.str y t from rx);cases q;exact ⟨_,PySem.W.kitx_str,YQ,(fun z=>nomatch z)⟩
 | flt y=>obtain ⟨t,q⟩:=(show ∃ t,u=Value.float y t from rx);cases q;exact ⟨_,PySem.W.kitx_float,YQ,(fun z=>nomatch z)⟩
 | @lst a xs ea =>
  cases (show u=Value.ref a from rx);obtain ⟨_,_,n,_,h1⟩:=(show ObjOk X.prog X.w H s.heap a (.lst xs) from I.hok a _ ea);exact ⟨_,PySem.W.kitx_list,⟨_,h1,rfl⟩,(fun z=>nomatch z)⟩
 | @frz a ob xs ea =>
  cases (show u=Value.ref a from rx);obtain ⟨_,_,_,n,_,h1⟩:=(show ObjOk X.prog X.w H s.heap a (.frz ob (.lst xs)) from I.hok a _ ea);exact ⟨_,PySem.W.kitx_list,⟨_,h1,rfl⟩,(fun z=>nomatch z)⟩
 | @tup a xs ea =>
  cases (show u=Value.ref a from rx);obtain ⟨_,_,_,p⟩:=(show ObjOk X.prog X.w H s.heap a (.tup xs) from I.hok a _ ea);obtain ⟨o,h1,h2,_⟩:=p;exact ⟨_,PySem.W.kitx_tuple,⟨o,h1,h2⟩,(fun z=>nomatch z)⟩
 | @dK a kvs ea =>
  cases (show u=Value.ref a from rx);obtain ⟨_,_,vs,_,p⟩:=(show ObjOk X.prog X.w H s.heap a (.dK kvs) from I.hok a _ ea);obtain ⟨o,es,ep,h1,h2,_⟩:=p;exact ⟨_,PySem.W.kitx_dict,⟨o,h1,h2.1⟩,(fun z=>nomatch z)⟩
 | @dT a kvs ea =>
  cases (show u=Value.ref a from rx);obtain ⟨_,_,xs,_,o,es,ep,h1,h2,_⟩:=(show ObjOk X.prog X.w H s.heap a (.dT kvs) from I.hok a _ ea);exact ⟨_,PySem.W.kitx_dict,⟨o,h1,h2.1⟩,(fun z=>nomatch z)⟩
 | @ins a C dx fs ea cl ha hn htk hm =>
  cases (show u=Value.ref a from rx);obtain ⟨mA,O,_⟩:=qaU I.hok ea;obtain ⟨od,J,_⟩:=O.look;exact ⟨_,PySem.W.kitx_own (cl.get _) cl.hd ha hn htk hm,J,(fun z=>nomatch z)⟩
end
section
variable {X:Cx}
inductive rIsi (K:yg) (xs:List V) (H:Hp) (Q:VK):Prop|mk (x y t c b:_) (_:xs=[x,y]) (_:TyOf K H x t) (_:qbu y=some c) (_:PySem.W.kitOne K t c=some b) (_:Q (.bl b) H)
inductive rIsiT (K:yg) (xs:List V) (H:Hp) (Q:VK):Prop|mk (x p ys t cs b:_) (_:xs=[x,.ref p]) (_:TyOf K H x t) (_:H p=some (.tup ys)) (_:ys.map qbu=cs.map some) (_:PySem.W.kitAny K t cs=some b) (_:Q (.bl b) H)
theorem qbv:∀ {ys:List V} {cs us:List Value},ys.map qbu=cs.map some->Vals ys us->us=cs
 | [],[],_,_,.nil=>rfl
 | [],_::_,_,h,_=>by cases h
 | y::ys,[],_,h,_=>by cases h
 | y::ys,c::cs,_,h,.cons r t=>by
  rw [Yy,Yy] at h
  injection h with h1 h2
  rw [qbS h1 r,qbv h2 t]
theorem qb1:∀ {bs:List Bool} {us:List Value},Vals (bs.map V.bl) us->us=bs.map Value.bool
 | [],_,.nil=>rfl
 | b::bs,_,.cons r t=>by
  have e:=qb1 t;rw [e];cases r;rfl
inductive rAll (K:yg) (xs:List V) (H:Hp) (Q:VK):Prop|mk (p:Addr) (bs:List Bool) (_:xs=[.ref p]) (_:SqL K H p (bs.map V.bl)) (_:Q (.bl (bs.all id)) H)
theorem call_all (hc:X.calm=true):zL X (.builtin "all") (rAll X.K):=by
 intro pins s σ H xs us Q I r h;obtain ⟨p,bs,rfl,hp,q⟩:=h;obtain ⟨u,rfl,ru⟩:=qbZ r;cases ru;obtain ⟨its,rv,pl,hz⟩:=I.list hp;have e:=qb1 rv;subst e;have hh:X.A.in1.handled=none:=I.ok.hd hc;refine call_all_walk (XC pl.isList ?_)
 have hne:p≠s.heap.objs.size:=by
  obtain ⟨o,ho,_⟩:=pl.isList;exact yN (yK ho)
 refine ⟨s.heap.objs.size,_,_,_,_,_,fun i=>(bs[i]?).getD false,rfl,Walks.list hh s.heap.objs.size p hne (bs.map Value.bool).toArray,⟨⟨_,yU _ rfl,rfl,rfl⟩,pl.isList.at fun o e=>yw _ e⟩,fun i v s Q E hv hq=>?_,fun h' tk hk=>?_⟩
 ·have hv':(bs.map Value.bool)[i]?=some v:=by simpa using hv
  rw [yd] at hv'
  cases e:bs[i]? with
  | none=>rw [e] at hv';cases hv'
  | some b =>
   rw [e] at hv';cases hv';have hq':Q ((bs[i]?).getD false) s:=hq;rw [e] at hq';exact yx hq'
 ·have e:((List.range (bs.map Value.bool).toArray.size).all fun i=>(bs[i]?).getD false)=bs.all id:=by
   rw [yv,ya]
   have key:∀ bs:List Bool,((List.range bs.length).all fun i=>(bs[i]?).getD false)=bs.all id:=by
    intro bs
    induction bs with
    | nil=>rfl
    | cons b r ih =>
     rw [yA,List.range_succ_eq_map,XT,kG,XT,<- ih];rfl
   exact key bs
  rw [e];refine ⟨.bl _,H,?_,rfl,q⟩;have I1:Inv X pins σ H { s with heap:=s.heap.push { cls:=.type "list_iterator",data:=.fields #[.ref p,.int 0 0] } }:=I.kept (t':=s.toks) fun b o e=>yw _ e;have nf:=I.fpOk (b:=s.heap.objs.size) (yh _) (I.hok.fresh (yh _));exact I1.turned (it:=s.heap.objs.size) (h':=h') (t':=tk) (fun b o hb e=>hk b o (by simpa using hb) e) nf.1 nf.2.1 nf.2.2.2.1 nf.2.2.2.2.1 nf.2.2.2.2.2
theorem op_le_str:OpR X (compareOp .LtE) (fun x y H Q=>∃ i j,x=.str i/\y=.str j/\Q (.bl (!decide (j.cps.toList < i.cps.toList))) H):=by
 intro pins s σ H x y v u Q I rx ry h;obtain ⟨i,j,rfl,rfl,q⟩:=h;obtain ⟨t,rfl⟩:=rx;obtain ⟨t',rfl⟩:=ry;exact PySem.P.le_str (qdo I q (by rfl))
noncomputable def qfX:R2:=fun x y H Q=>match x,y with
 | .int i,.int j=>Q (.bl (decide (i<=j))) H
 | .str i,.str j=>Q (.bl (!decide (j.cps.toList < i.cps.toList))) H
 | _,_=>False
theorem qfg:OpR X (compareOp .LtE) qfX:=by
 intro pins s σ H x y v u Q I rx ry h
 cases x with
 | int i=>cases y with
  | int j=>exact op_le pins s σ H _ _ v u Q I rx ry ⟨i,j,rfl,rfl,h⟩
  | _=>exact False.elim h
 | str i=>cases y with
  | str j=>exact op_le_str pins s σ H _ _ v u Q I rx ry ⟨i,j,rfl,rfl,h⟩
  | _=>exact False.elim h
 | _=>exact False.elim h
theorem op_is_bl:OpR X (compareOp .Is) (fun x y H Q=>∃ i j,x=.bl i/\y=.bl j/\Q (.bl (i==j)) H):=by
 intro pins s σ H x y v u Q I rx ry h;obtain ⟨i,j,rfl,rfl,q⟩:=h;cases rx;cases ry;exact wpAny_is_plain (by cases i<;>cases j<;>rfl) (qdo I q (by cases i<;>cases j<;>rfl))
noncomputable def qgf:R2:=fun x y H Q=>match x,y with
 | .bl i,.bl j=>Q (.bl (i==j)) H
 | x,.non=>Q (.bl (decide (x=.non))) H
 | _,_=>False
theorem qfY:OpR X (compareOp .Is) qgf:=by
 intro pins s σ H x y v u Q I rx ry h
 cases y with
 | non=>exact op_isN pins s σ H x _ v u Q I rx ry ⟨rfl,by cases x<;>exact h⟩
 | bl j=>cases x with
  | bl i=>exact op_is_bl pins s σ H _ _ v u Q I rx ry ⟨i,j,rfl,rfl,h⟩
  | _=>exact False.elim h
 | _=>cases x<;>exact False.elim h
theorem op_rep_str:OpR X (binaryOp .Mult) (fun x y H Q=>∃ z k,x=.str z/\y=.int k/\MulOk z k/\Q (.str (Txt.mul z k)) H):=by
 intro pins s σ H x y v u Q I rx ry h;obtain ⟨z,k,rfl,rfl,hm,q⟩:=h;obtain ⟨t,rfl⟩:=rx;obtain ⟨t',rfl⟩:=ry;exact SB.mul hm fun t' k'=>⟨.str _,H,I.tok _,⟨_,rfl⟩,q⟩
noncomputable def qfw:R2:=fun x y H Q=>match x,y with
 | .int i,.int j=>CMul i j/\Q (.int (i * j)) H
 | .str z,.int k=>MulOk z k/\Q (.str (Txt.mul z k)) H
 | .ref a,.int k=>rRep (.ref a) (.int k) H Q
 | _,_=>False
theorem qb2:OpR X (binaryOp .Mult) qfw:=by
 intro pins s σ H x y v u Q I rx ry h
 cases y with
 | int j=>cases x with
  | int i=>exact op_mul pins s σ H _ _ v u Q I rx ry ⟨i,j,rfl,rfl,h.1,h.2⟩
  | str i=>exact op_rep_str pins s σ H _ _ v u Q I rx ry ⟨i,j,rfl,rfl,h.1,h.2⟩
  | ref a=>exact qd2 pins s σ H _ _ v u Q I rx ry h
  | _=>exact False.elim h
 | _=>cases x<;>exact False.elim h
noncomputable def qcy (K:yg):R2:=fun x y H Q=>match x,y with
 | .int i,.int j=>Q (.int (i + j)) H
 | .str i,.str j=>i.length + j.length<=sizeLine/\Q (.str (i++j)) H
 | .ref a,.ref b=>rCat (.ref a) (.ref b) H Q\/rCatT K (.ref a) (.ref b) H Q
 | _,_=>False
theorem u_add:OpR X (binaryOp .Add) (qcy X.K):=by
 intro pins s σ H x y v u Q I rx ry h
 cases x with
 | int i=>cases y with
  | int j=>exact op_add pins s σ H _ _ v u Q I rx ry ⟨i,j,rfl,rfl,h⟩
  | _=>exact False.elim h
 | str i=>cases y with
  | str j=>exact op_add_str pins s σ H _ _ v u Q I rx ry ⟨i,j,rfl,rfl,h.1,h.2⟩
  | _=>exact False.elim h
 | ref a=>cases y with
  | ref b=>exact h.elim (fun h=>op_cat pins s σ H _ _ v u Q I rx ry h) fun h=>op_catT pins s σ H _ _ v u Q I rx ry h
  | _=>exact False.elim h
 | _=>exact False.elim h
noncomputable def qdQ (K:yg):List V->Hp->VK->Prop:=fun xs H Q=>match xs with
 | [.str z]=>z.length<=sizeLine/\Q (.int z.length) H
 | [.ref p]=>(∃ ys,(SqL K H p ys\/SqT K H p ys)/\Q (.int ys.length) H)\/∃ kvs,H p=some (.dK kvs)/\Q (.int kvs.length) H
 | _=>False
theorem call_lenU:zL X (.builtin "len") (qdQ X.K):=by
 intro pins s σ H xs us Q I r h
 match xs,h with
 | [.str z],h=>exact call_len_str pins s σ H _ us Q I r ⟨z,rfl,h.1,h.2⟩
 | [.ref p],.inl ⟨ys,h,q⟩=>exact call_len_seq pins s σ H _ us Q I r ⟨p,ys,rfl,h,q⟩
 | [.ref p],.inr ⟨kvs,h,q⟩=>exact call_lenD pins s σ H _ us Q I r ⟨p,kvs,rfl,h,q⟩
theorem sl_str:SlR X (fun x lo hi H Q=>∃ z,x=.str z/\z.length<=sizeLine/\Q (.str (Txt.slice z lo hi)) H):=by
 intro pins s σ H x v vl vu lo hi sl Q I rx hs pl pu h;obtain ⟨z,rfl,hz,q⟩:=h;obtain ⟨t,rfl⟩:=rx;refine ⟨"str",_,F.slot_str_getitem.lookup,typeIs_str _ _ _,?_⟩
 cases pl with
 | none =>
  cases pu with
  | none=>exact xQ (l:=none) (u:=none) (st:=none) hs rfl (XZ ⟨yi (kH z _ _) hz,fun t' k=>⟨.str _,H,I.tok _,⟨_,rfl⟩,q⟩⟩)
  | int j uj=>exact xQ (l:=none) (u:=some (j,uj)) (st:=none) hs rfl (XZ ⟨yi (kH z _ _) hz,fun t' k=>⟨.str _,H,I.tok _,⟨_,rfl⟩,q⟩⟩)
 | int i ui =>
  cases pu with
  | none=>exact xQ (l:=some (i,ui)) (u:=none) (st:=none) hs rfl (XZ ⟨yi (kH z _ _) hz,fun t' k=>⟨.str _,H,I.tok _,⟨_,rfl⟩,q⟩⟩)
  | int j uj=>exact xQ (l:=some (i,ui)) (u:=some (j,uj)) (st:=none) hs rfl (XZ ⟨yi (kH z _ _) hz,fun t' k=>⟨.str _,H,I.tok _,⟨_,rfl⟩,q⟩⟩)
noncomputable def qfZ (K:yg):V->Option Int->Option Int->Hp->VK->Prop:=fun x lo hi H Q=>match x with
 | .str z=>z.length<=sizeLine/\Q (.str (Txt.slice z lo hi)) H
 | .ref a=>rSlL K (.ref a) lo hi H Q\/rSlT K (.ref a) lo hi H Q
 | _=>False
theorem u_sl:SlR X (qfZ X.K):=by
 intro pins s σ H x v vl vu lo hi sl Q I rx hs pl pu h
 cases x with
 | str z=>exact sl_str pins s σ H _ v vl vu lo hi sl Q I rx hs pl pu ⟨z,rfl,h.1,h.2⟩
 | ref a=>exact h.elim (fun h=>sl_list pins s σ H _ v vl vu lo hi sl Q I rx hs pl pu h) fun h=>sl_tup pins s σ H _ v vl vu lo hi sl Q I rx hs pl pu h
 | _=>exact False.elim h
theorem qd7:∀ {ys:List Str} {us:List Value},Vals (ys.map V.str) us->StrsAre us ys
 | [],_,.nil=>.nil
 | y::ys,_,.cons r t=>by
  obtain ⟨tk,rfl⟩:=r;exact .cons y tk (qd7 t)
inductive rJoin (K:yg) (x:V) (vs:List V) (H:Hp) (Q:VK):Prop|mk (z:Str) (p:Addr) (ys:List Str) (_:x=.str z) (_:vs=[.ref p]) (_:SqL K H p (ys.map V.str)) (_:(ys.map (·.length)).sum + ys.length * z.length<=16777216) (_:Q (.str (Txt.join z ys)) H)
theorem mt_join:MtR X "str.join" (rJoin X.K):=by
 intro pins s σ H x vs v us Q I rx rv h;obtain ⟨z,p,ys,rfl,rfl,hp,hz,q⟩:=h;obtain ⟨t,rfl⟩:=rx;obtain ⟨u,rfl,ru⟩:=rv.one;cases ru;obtain ⟨its,r,pl,_⟩:=I.list hp;exact join_list pl.isList (by simpa using qd7 r) hz fun t' k=>⟨.str _,H,I.tok _,⟨_,rfl⟩,q⟩
inductive rUpper (x:V) (vs:List V) (H:Hp) (Q:VK):Prop|mk (z:_) (_:x=.str z) (_:vs=[]) (_:z.length<=5592405) (_:Q (.str (Txt.upper z)) H)
noncomputable def qf0 (K:yg) (te:TE):TI:=fun σ H R=>te σ H fun v H1=>match v with
 | .str x=>R (Its x) H1
 | .ref a=>((∃ xs,SqL K H1 a xs)/\R (Itl K a) H1)\/((∃ xs,SqT K H1 a xs)/\R (Itt K a) H1)
 | _=>False
theorem pi_any {e:Expr} (he:PE X e te) (htg:∀ it v,letOwnedTupleGo tg it v=pure ():=by intro _ _;rfl):PI X tg e (qf0 X.K te):=by
 intro pins s σ H R I h;refine thn (he pins s σ H _ I h) fun v s1 ⟨y,H1,I1,r1,q1⟩=>?_
 cases y with
 | str x =>
  obtain ⟨t,rfl⟩:=r1
  have fp:∀ b∈[s1.heap.objs.size],qcQ X pins H1 b:=fun b hb=>by
   have e:b=s1.heap.objs.size:=by simpa using hb
   subst e;exact I1.fpOk (yh _) (I1.hok.fresh (yh _))
  cases ha:x.cps.all (· < 128)
  ·exact wpAny_pyIter_wide ha ⟨s1.heap.objs.size,[s1.heap.objs.size],_,_,H1,rfl,I1.kept (t':=s1.toks) fun b o e=>yw _ e,
    qdv (T:="str_iterator") (fun A hA=>Walks.strWide hA _ x t) (fun A i s Q E st h=>wpAny_pyIter_striter_wide st h) (htg _),⟨_,yU _ rfl,rfl,rfl⟩,fp,q1⟩
  ·exact wpAny_pyIter_ascii ha ⟨s1.heap.objs.size,[s1.heap.objs.size],_,_,H1,rfl,I1.kept (t':=s1.toks) fun b o e=>yw _ e,
    qdv (T:="str_ascii_iterator") (fun A hA=>Walks.strAscii hA _ x t) (fun A i s Q E st h=>wpAny_pyIter_striter_ascii st h) (htg _),⟨_,yU _ rfl,rfl,rfl⟩,fp,q1⟩
 | ref a =>
  cases r1
  have fp:∀ b∈[s1.heap.objs.size],qcQ X pins H1 b:=fun b hb=>by
   have e:b=s1.heap.objs.size:=by simpa using hb
   subst e;exact I1.fpOk (yh _) (I1.hok.fresh (yh _))
  rcases q1 with ⟨⟨xs,hq⟩,q⟩ | ⟨⟨xs,hq⟩,q⟩
  ·obtain ⟨its,rv,p,hz⟩:=I1.list hq;exact XC p.isList ⟨s1.heap.objs.size,[s1.heap.objs.size],_,_,H1,rfl,I1.kept (t':=s1.toks) fun b o e=>yw _ e,qck a _,⟨_,yU _ rfl,rfl,rfl⟩,fp,q⟩
  ·obtain ⟨its,rv,p,hz⟩:=I1.tuple hq;exact wpAny_pyIter_tuple (show s1.heap.IsTuple a its.toArray from p) ⟨s1.heap.objs.size,[s1.heap.objs.size],_,_,H1,rfl,I1.kept (t':=s1.toks) fun b o e=>yw _ e,turn_tuple a _,⟨_,yU _ rfl,rfl,rfl⟩,fp,q⟩
 | _=>exact False.elim q1
end
section
variable {D:Ends} {σ:St} {H:Hp} {Q:VK} {QT:Bool->Hp->Prop} {QA:List V->Hp->Prop} {t u:TS} {te ta tb tc:TE} {c c':TT} {tr tas:TA} {r r':R2} {K:yg}
theorem vSeq (h:t { D with nx:=u D } σ H):qfQ t u D σ H:=h
theorem vAsg {i:Nat} (h:te σ H fun x H1=>D.nx (σ.set i (some x)) H1):qfp te (qbY i) D σ H:=h
theorem vAsgS {to ti:TE} {s:qfo} (h:te σ H fun x H1=>to σ H1 fun o H2=>ti σ H2 fun i H3=>s o i x H3 fun H4=>D.nx σ H4):qfp te (qf9 to ti s) D σ H:=h
theorem vIfS (h:c σ H fun b H1=>if b=true then t D σ H1 else u D σ H1):qf6 c t u D σ H:=h
theorem vRet (h:te σ H D.rt):qf5 te D σ H:=h
theorem vRetN (h:D.rt .non H):qfn D σ H:=h
theorem vDrop (h:te σ H fun _ H1=>D.nx σ H1):qfm te D σ H:=h
theorem vNext (h:D.nx σ H):qfl D σ H:=h
theorem vC (h:Q v H):tC v σ H Q:=h
theorem vVar {i:Nat} (e:σ[i]?=some (some v)) (h:Q v H):qfP i σ H Q:=⟨v,e,h⟩
theorem vOp (h:ta σ H fun x H1=>tb σ H1 fun y H2=>r x y H2 Q):tOp r ta tb σ H Q:=h
theorem vUn {f:V->Hp->VK->Prop} (h:ta σ H fun x H1=>f x H1 Q):tUn f ta σ H Q:=h
theorem vChain (h:ta σ H fun x H1=>tb σ H1 fun y H2=>r x y H2 fun z H3=>∃ k,z=.bl k/\if k=true then tc σ H3 fun z2 H4=>r' y z2 H4 Q else Q (.bl false) H3):qdV r r' ta tb tc σ H Q:=h
theorem vNil (h:QA [] H):qfM σ H QA:=h
theorem vCons (h:ta σ H fun x H1=>tr σ H1 fun xs H2=>QA (x::xs) H2):qfs ta tr σ H QA:=h
theorem vCB {f:List V->Hp->VK->Prop} (h:tas σ H fun vs H1=>f vs H1 Q):tCB f tas σ H Q:=h
theorem vCall {sp:Sp} {E:XK} (h:tas σ H fun vs H1=>sp (vs++[]) H1 Q E):qe2 sp [] E tas σ H Q:=h
theorem vLst (h:tas σ H fun xs H1=>xs.length<=sizeLine/\∀ p,H1 p=none->Q (.ref p) (upd H1 p (.lst xs))):qgd tas σ H Q:=h
theorem vTup (h:tas σ H fun xs H1=>xs.length<=sizeLine/\∀ p,H1 p=none->Q (.ref p) (upd H1 p (.tup xs))):qgc tas σ H Q:=h
theorem vTest (h:te σ H fun x H'=>∃ k,x=.bl k/\QT k H'):qe1 te σ H QT:=h
theorem vB (h:te σ H fun x H'=>∃ k,x=.bl k/\QT k H'):tB te σ H QT:=h
theorem vNot (h:c σ H fun b H1=>QT (!b) H1):qf3 c σ H QT:=h
theorem vAnd (h:c σ H fun b H1=>if b=true then c' σ H1 QT else QT false H1):qf2 c c' σ H QT:=h
theorem vOr (h:c σ H fun b H1=>if b=true then QT true H1 else c' σ H1 QT):tOr c c' σ H QT:=h
theorem vAndV (h:ta σ H fun x H1=>∃ k,x=.bl k/\if k=true then tb σ H1 Q else Q (.bl false) H1):qfj ta tb σ H Q:=h
theorem vOrV (h:ta σ H fun x H1=>∃ k,x=.bl k/\if k=true then Q (.bl true) H1 else tb σ H1 Q):qf4 ta tb σ H Q:=h
theorem vNotV (h:ta σ H fun x H1=>∃ k,x=.bl k/\Q (.bl (!k)) H1):qfk ta σ H Q:=h
theorem vIf (h:c σ H fun b H1=>if b=true then ta σ H1 Q else tb σ H1 Q):tIf c ta tb σ H Q:=h
theorem vYes (h:QT true H):qge σ H QT:=h
theorem vI0 {g:Int->Int->V} (h:Q (g i j) H):rI0 g (.int i) (.int j) H Q:=⟨i,j,rfl,rfl,h⟩
theorem vI {C:Int->Int->Prop} {g:Int->Int->V} (hc:C i j) (h:Q (g i j) H):rI C g (.int i) (.int j) H Q:=⟨i,j,rfl,rfl,hc,h⟩
theorem vU {g:Int->V} (h:Q (g i) H):rU g (.int i) H Q:=⟨i,rfl,h⟩
theorem vEqI (h:Q (.bl (decide (i=j))) H):rEq (.int i) (.int j) H Q:=⟨rfl,by
 have e:decide (V.int i=V.int j)=decide (i=j):=by
  by_cases h:i=j
  ·subst h;simp
  ·rw [yl h,yl (fun e=>h (V.int.inj e))]
 rw [e];exact h⟩
theorem vEqB {i j:Bool} (h:Q (.bl (i==j)) H):rEq (.bl i) (.bl j) H Q:=⟨rfl,by rw [dec_bl];exact h⟩
theorem qae (hp:H p=some (.lst xs)) (ha:atI xs i=some v) (h:Q v H):rIx K (.ref p) (.int i) H Q:=.inl ⟨p,xs,i,v,rfl,rfl,SqL.of hp,ha,h⟩
theorem vIxLs (hp:SqL K H p xs) (ha:atI xs i=some v) (h:Q v H):rIx K (.ref p) (.int i) H Q:=.inl ⟨p,xs,i,v,rfl,rfl,hp,ha,h⟩
theorem qat (hp:H p=some (.tup xs)) (ha:atI xs i=some v) (h:Q v H):rIx K (.ref p) (.int i) H Q:=.inr (.inl ⟨p,xs,i,v,rfl,rfl,SqT.of hp,ha,h⟩)
theorem qgg {ch:Nat} (hz:z.length<=sizeLine) (ha:atI z.cps.toList i=some ch) (h:Q (.str ⟨#[ch]⟩) H):rIx K (.str z) (.int i) H Q:=.inr (.inr ⟨z,i,ch,rfl,rfl,hz,ha,h⟩)
theorem qdR {k:Int} {j:Nat} {QH:Hp->Prop} (hp:H p=some (.lst xs)) (hj:ixN xs.length k=some j) (h:QH (upd H p (.lst (xs.set j v)))):rSetL (.ref p) (.int k) v H QH:=⟨p,xs,k,j,rfl,rfl,hp,hj,h⟩
theorem vEx {k:Bool} {P:Bool->Prop} (h:P k):∃ k',V.bl k=.bl k'/\P k':=⟨k,rfl,h⟩
theorem vLeI (h:Q (.bl (decide (i<=j))) H):qfX (.int i) (.int j) H Q:=h
theorem vLeS {i j:Str} (h:Q (.bl (!decide (j.cps.toList < i.cps.toList))) H):qfX (.str i) (.str j) H Q:=h
theorem vIsB {i j:Bool} (h:Q (.bl (i==j)) H):qgf (.bl i) (.bl j) H Q:=h
theorem vAddI (h:Q (.int (i + j)) H):qcy K (.int i) (.int j) H Q:=h
theorem qe5 {i j:Str} (hz:i.length + j.length<=sizeLine) (h:Q (.str (i++j)) H):qcy K (.str i) (.str j) H Q:=⟨hz,h⟩
theorem qb3 (hc:CMul i j) (h:Q (.int (i * j)) H):qfw (.int i) (.int j) H Q:=⟨hc,h⟩
theorem vLenS (hz:z.length<=sizeLine) (h:Q (.int z.length) H):qdQ K [.str z] H Q:=⟨hz,h⟩
theorem zd (hp:H p=some (.lst ys)) (h:Q (.int ys.length) H):qdQ K [.ref p] H Q:=.inl ⟨ys,.inl (SqL.of hp),h⟩
theorem vLenLs (hp:SqL K H p ys) (h:Q (.int ys.length) H):qdQ K [.ref p] H Q:=.inl ⟨ys,.inl hp,h⟩
theorem qfx (hp:H p=some (.tup ys)) (h:Q (.int ys.length) H):qdQ K [.ref p] H Q:=.inl ⟨ys,.inr (SqT.of hp),h⟩
theorem qf1 {lo hi:Option Int} (hz:z.length<=sizeLine) (h:Q (.str (Txt.slice z lo hi)) H):qfZ K (.str z) lo hi H Q:=⟨hz,h⟩
theorem vSl {f:V->Option Int->Option Int->Hp->VK->Prop} {tl th:TO} (h:te σ H fun x H1=>tl σ H1 fun l H2=>th σ H2 fun u H3=>f x l u H3 Q):tSl f te tl th σ H Q:=h
theorem vNoPart (h:QO none H):qdZ σ H QO:=h
theorem vPart (h:te σ H fun x H1=>∃ i,x=.int i/\QO (some i) H1):qft te σ H QO:=h
theorem vExI {P:Int->Prop} (h:P i):∃ j,V.int i=.int j/\P j:=⟨i,rfl,h⟩
theorem vBM (h:te σ H fun x H1=>tyV K T x H1/\tas σ H1 fun xs H2=>f x xs H2 Q):tBM K T f te tas σ H Q:=h
theorem vBM0 (h:te σ H fun x H1=>tyV K T x H1/\f x [] H1 Q):qfU K T f te σ H Q:=h
theorem vComp (h:wi σ H fun J H1=>qd6 J g c te (qdU nl ixs σ) H1 Q):qe4 wi g c te nl ixs σ H Q:=h
theorem vFor (h:wi σ H fun J H1=>∃ W:Nat->Nat->St->Hp->Prop,(∃ m,W 0 m σ H1)/\∀ i m σ H,W i m σ H ->
 (J.stop i H/\D.nx σ H)\/(J.go i H/\∃ N:St->Hp->Prop,(∀ σ' H',N σ' H'->∃ m',m' < m/\W (i + 1) m' σ' H')/\∀ x H',J.yld i H x H'->g x σ H' fun σ2 H2=>t { D with nx:=N,ct:=N,bk:=D.nx } σ2 H2)):qga wi g t D σ H:=h
theorem vRng1 (h:tas σ H fun vs H1=>∃ j:Int,vs=[.int j]/\-(2 ^ 62)<=j/\j < 2 ^ 62/\R (Itr 0 j.toNat) H1):qfq tas σ H R:=h
theorem vAny (h:te σ H fun v H1=>match v with
 | .str x=>R (Its x) H1
 | .ref a=>((∃ xs,SqL K H1 a xs)/\R (Itl K a) H1)\/((∃ xs,SqT K H1 a xs)/\R (Itt K a) H1)
 | _=>False):qf0 K te σ H R:=h
theorem vGN {i:Nat} {QS:St->Hp->Prop} (h:QS (σ.set i (some v)) H):qbY i v σ H QS:=h
end
section
variable {X:Cx} {K:yg} {o e:Expr} {es:List Expr} {to ta:TE} {t:TA} {name f:Str} {apos cpos pos:Pos} {T id:String} {r:V->List V->Hp->VK->Prop} {tg:Expr}
theorem jI (hK:X.K=K):zL X (.builtin "len") (qdQ K):=by subst hK;exact call_lenU
theorem qe6 (hK:X.K=K) (hc:X.calm=true):zL X (.builtin "all") (rAll K):=by subst hK;exact call_all hc
theorem qc2 (hK:X.K=K):SlR X (qfZ K):=by subst hK;exact u_sl
theorem j3 (hK:X.K=K):OpR X (binaryOp .Add) (qcy K):=by subst hK;exact u_add
theorem k_join (hK:X.K=K):MtR X "str.join" (rJoin K):=by subst hK;exact mt_join
theorem qQ (hK:X.K=K) (he:PE X e ta) (htg:∀ it v,letOwnedTupleGo tg it v=pure ():=by intro _ _;rfl):PI X tg e (qf0 K ta):=by subst hK;exact pi_any he htg
theorem k_bm0 (hK:X.K=K) (pa:PlainAttrs T) (slot:Slot T name id) (hty:typeOf (.builtin id)=pure (.type "method_descriptor")) (hm:MtR X id r) (ho:PE X o to)
  (hbase:attributeBase o name X.env (eval o X.env)=eval o X.env:=by rfl) (hline:(apos.endLine==cpos.line)=true:=by rfl):PE X (.Call (.Attribute o name apos) [] [] cpos) (qfU K T r to):=by
 subst hK;exact pe_bm0 pa slot hty hm ho hbase hline
theorem qaW (hK:X.K=K) (pa:PlainAttrs T) (slot:Slot T name id) (hty:typeOf (.builtin id)=pure (.type "method_descriptor")) (hm:MtR X id r) (ho:PE X o to) (ha:PA X (e::es) t)
  (hbase:attributeBase o name X.env (eval o X.env)=eval o X.env:=by rfl)
  (hfew:((backTo cpos (starEach (e::es) X.env)).all (fun x=>!x.1)&&(backToKw cpos (keywordEach [] X.env)).all (fun x=>x.1.isSome)
   && decide ((e::es).length + ([]:List Keyword).length + (if ([]:List Keyword).isEmpty then 0 else 1) < 30))=true:=by rfl)
  (hline:(apos.endLine==cpos.line)=true:=by rfl) (hs:starEach (e::es) X.env=(false,eval e X.env)::starEach es X.env:=by rfl) (hplain:(backTo cpos (starEach es X.env)).any (·.1)=false:=by rfl) :
  PE X (.Call (.Attribute o name apos) (e::es) [] cpos) (tBM K T r to t):=by
 subst hK;exact pe_bm pa slot hty hm ho ha hbase hfew hline hs hplain
end
structure DefOk (P:Program) (w:World) (K:yg) (mg:Str->Option Value) (base:Heap) (CX:CXT) (k:Nat) (x:Str) (ps:List Str) (sp:Sp):Prop where
 ex:∃ f fd,FnOk P w K mg base CX k f fd ps sp/\mg x=some (.ref f)/\PySem.W.keepIn K (.ref f)=true/\Binds K fd ps []
section
variable {X:Cx} {CX:CXT} {k:Nat} {ps:List Str} {sp:Sp} {E:XK} {x:Str} {p pos:Pos} {e:Expr} {es:List Expr} {t:TA}
theorem qk (D:DefOk X.prog X.w X.K X.mg X.base CX k x ps sp) (hr:Room k X.A) (hx:qa3 CX X E) (ha:PA X (e::es) t) (hg:Gl X x:=by rfl) (hdb:(x==("__debug__":Str))=false:=by decide)
  (he:starEach (e::es) X.env=(false,eval e X.env)::starEach es X.env:=by rfl) (hpl:(backTo pos (starEach es X.env)).any (·.1)=false:=by rfl):PE X (.Call (.Name x p) (e::es) [] pos) (qe2 sp [] E t):=by
 obtain ⟨f,fd,F,hm,hk,hb⟩:=D.ex;exact pe_call F hr hg hm hk hb .nil hx ha hdb he hpl
theorem qb4 (hg:Gl X x) (hm:∃ tk,X.mg x=some (.int i tk)) (hd:(x==("__debug__":Str))=false:=by decide):PE X (.Name x pos) (tC (.int i)):=by
 obtain ⟨tk,hm⟩:=hm;exact pe_glob hg hm ⟨tk,rfl⟩ hd
end
noncomputable def isaT (t c:String):Bool:=t==c||(t=="bool"&&c=="int")
theorem qaX (K:yg):∀ t∈["NoneType","bool","int","str","list","tuple","dict"],∀ c∈["bool","int","str","list","tuple","dict"],PySem.W.kitOne K (.type t) (.type c)=some (isaT t c):=by
 intro t ht c hc;simp only [yB,yY,YB] at ht hc;rcases ht with rfl | rfl | rfl | rfl | rfl | rfl | rfl<;>rcases hc with rfl | rfl | rfl | rfl | rfl | rfl<;>rfl
noncomputable def qeL:List Value->Bool
 | [.type a,.type b,.type c,.type d]=>a=="ValueError"&&b=="Exception"&&c=="BaseException"&&d=="object"
 | .ref _::r=>qeL r
 | _=>false
noncomputable def xcIn (K:yg) (C:Addr):Bool:=match K.lookup C with
 | some ⟨.type "type",_,.cls cd,sl⟩=>(match cd.mro,sl.toList with
  | .ref D::bm,[_,_,_,_,some (.builtin n),_]=>D==C&&!cd.hasDel&&qeL bm&&n=="ValueError.__new__"
  | _,_=>false)
 | _=>false
structure XAt (K:yg) (C:Addr):Prop where
 ga:PySem.W.findIn K (.ref C) "__getattribute__"=some (some (.builtin "BaseException.__getattribute__"))
 gn:PySem.W.findIn K (.ref C) "__getattr__"=some none
 bx:PySem.W.mroIn K C (.type "BaseException")=some true
 ob:PySem.W.mroIn K C (.type "object")=some true
 hd:PySem.W.hasDictIn K C=true
 cl:PySem.W.findIn K (.ref C) "__class__"=some (some (.builtin "object.__class__"))
 cg:PySem.W.specialIn K (.builtin "object.__class__") "__get__"=some (some (.builtin "getset_descriptor.__get__"))
 ct:PySem.W.takesIn K (.builtin "object.__class__")=some true
 sa:PySem.W.findIn K (.ref C) "__setattr__"=some (some (.builtin "object.__setattr__"))
 mr:(PySem.W.clsIn K C).any (fun cd=>qeL cd.mro)=true
 xc:xcIn K C=true
theorem bexc_ga_slot:Slot "ValueError" "__getattribute__" "BaseException.__getattribute__":=PySem.F.attr_ValueError.ga
section
variable {prog:Program} {w:World} {A:Around} {E:Value->Shared->Prop} {s:Shared} {K:yg} {x C:Addr} {ox:Obj} {od:Option Obj} {name:Str} {v:Value}
theorem xga_value {Q:Fin->Shared->Prop} (X:K.In s.heap) (I:PySem.W.InstAt s.heap x ox C od) (hf:PySem.W.findObj K C od name=some (.value v)) (h:Q (.done (.ret v)) s) :
  wpAny (model prog w) A (Builtin.«object.__getattribute__» ⟨[.ref x,.str name tk],[]⟩) Q E s:=by
 have F:=PySem.W.looks_find (M:=model prog w) X I hf;refine yr (yx (yr (yx (yr (I.type.here (yr (F.here ?_)))))));exact yx h
theorem xga_call {R:Result->Shared->Prop} (X:K.In s.heap) (I:PySem.W.InstAt s.heap x ox C od) (hb:PySem.W.mroIn K C (.type "BaseException")=some true)
  (h:wpAny (model prog w) A.in1 (Builtin.«object.__getattribute__» ⟨[.ref x,.str name tk],[]⟩) (fun fin s'=>match fin with | .done f=>R (.ok f) s' | .again c'=>c'.quiet=true/\codeAny (model prog w) A c' R s') (fun e s'=>R (.error e) s') s) :
  codeAny (model prog w) A (.call (.builtin "BaseException.__getattribute__") ⟨[.ref x,.str name tk],[]⟩) R s:=by
 refine Xh bexc_ga_slot.plain PySem.F.entry_bexc_ga ?_;exact @PySem.W.check_slot (model prog w) _ _ s "BaseException.__getattribute__" "BaseException" "__getattribute__" (.ref x) [.str name tk] [] _ (by decide +kernel) (by decide +kernel) (I.type.andThen (xJ X hb)) (PySem.F.args_bexc_ga _ _) h
theorem qd8 {fill:Bool} {Q:Value->Shared->Prop} (X:K.In s.heap) (I:PySem.W.InstAt s.heap x ox C od) (c:XAt K C)
  (h:wpAny (model prog w) A.in1 (Builtin.«object.__getattribute__» ⟨[.ref x,.str name tk],[]⟩) (fun fin s'=>match fin with | .done (.ret v)=>wpAny (model prog w) A (handedOut v) Q E s' | _=>False) (fun _ _=>False) s) :
  wpAny (model prog w) A (getAttrBy (.ref x) (.str name tk) fill expr) Q E s:=by
 unfold getAttrBy;refine Ys (yr (I.type.here (yr ((Y4 X c.ga).here ?_))))
 have e1:(onTheHeap (Value.ref C)&&Value.builtin "BaseException.__getattribute__"==Value.builtin "object.__getattribute__")=false:=by
  rw [show (Value.builtin "BaseException.__getattribute__"==Value.builtin "object.__getattribute__")=false by decide +kernel];rfl
 dsimp only;rw [e1,yC (by decide)];unfold getAttrByItsOwn hookBefore;rw [yF (show onTheHeap (Value.ref C)=true from rfl)];refine yr ((Y4 X c.gn).here (yr (kq (Ys ?_))));have e2:(expr&&onTheHeap (Value.builtin "BaseException.__getattribute__"))=false:=by cases expr<;>rfl
 unfold callGetattribute;rw [e2,yC (by decide)];unfold boundAndCalled;rw [bexc_ga_slot.bind];refine yr (yx ?_);show wpAny _ _ (call (.builtin "BaseException.__getattribute__") [.ref x,.str name tk]) _ _ _;refine ke (xga_call X I c.bx (YV h (fun fin s' z=>?_) fun _ _ z=>z.elim));rcases fin with (_ | _ | _ | _) | _<;>first | exact z | exact z.elim
theorem xget {Q:Value->Shared->Prop} (X:K.In s.heap) (I:PySem.W.InstAt s.heap x ox C od) (c:XAt K C) (hf:PySem.W.findObj K C od name=some (.value v)) (hh:PySem.W.handedIn v=true)
  (h:Q v { s with toks:=s.toks + 1 }):wpAny (model prog w) A (getAttr (.ref x) name expr) Q E s:=by
 unfold getAttr;refine yr (wpAny_mkText (qd8 (s:={ s with toks:=s.toks + 1 }) X I c (xga_value (s:={ s with toks:=s.toks + 1 }) X I hf ?_)));show wpAny _ _ (handedOut v) _ _ _;rw [PySem.W.handedOut_of hh];exact yx h
theorem xclass {Q:Option Value->Shared->Prop} (X:K.In s.heap) (I:PySem.W.InstAt s.heap x ox C od) (c:XAt K C) (hf:PySem.W.findObj K C od "__class__"=some (.bind (.builtin "getset_descriptor.__get__") (.builtin "object.__class__")))
  (h:Q (some (.ref C)) { s with toks:=s.toks + 1 }):wpAny (model prog w) A (getAttr? (.ref x) "__class__") Q E s:=by
 unfold getAttr? getAttrBy?;refine yr (wpAny_mkText (yr (kq (qd8 (s:={ s with toks:=s.toks + 1 }) X I c ?_))));have F:=PySem.W.looks_find (M:=model prog w) X I hf;refine yr (yx (yr (yx (yr (I.type.here (s:={ s with toks:=s.toks + 1 }) (yr (F.here (s:={ s with toks:=s.toks + 1 }) ?_)))))));show wpAny _ _ (holding [Value.builtin "object.__class__"] (call (.builtin "getset_descriptor.__get__") [.builtin "object.__class__",.ref x,.ref C])>>=ret) _ _ _;refine yr (Ys (ke (PySem.W.class_get (s:={ s with toks:=s.toks + 1 }) X I c.ob ?_)));refine yx ?_;show wpAny _ _ (handedOut (.ref C)) _ _ _;exact yx (yx h)
theorem findObj_class (c:XAt K C):PySem.W.findObj K C od "__class__"=some (.bind (.builtin "getset_descriptor.__get__") (.builtin "object.__class__")):=by
 obtain ⟨cd,hc,_⟩:=xM c.hd;unfold PySem.W.findObj;rw [hc,Option.bind_some,c.cl,Option.bind_some];simp [c.cg,c.ct]
theorem qdw (c:XAt K C):PySem.W.KitX K (.ref x) (.ref C) (fun h=>PySem.W.InstAt h x ox C od) where
 ty:=fun _ _ _ I=>I.type
 it:=fun _ _ X _=>by
  obtain ⟨cd,hc,_⟩:=xM c.hd;unfold PySem.W.clsIn at hc;split at hc
  ·rename_i c1 d1 cd1 sl1 ho
   intro A' Q' E' s' k q;unfold isType loadHead;exact yr (wpAny_loadPart (k _ _ (X _ _ ho)) (yx q))
  ·cases hc
 ne:=fun h tp dd its n sl X htp=>by
  obtain ⟨cd,hc,_⟩:=xM c.hd;refine Bool.eq_false_iff.mpr fun q=>?_;have e:C=tp:=Value.ref.inj (Yo.mp q);subst e;unfold PySem.W.clsIn at hc;split at hc
  ·rename_i c1 d1 cd1 sl1 ho
   have z:=(X _ _ ho).symm.trans htp;cases z
  ·cases hc
 ca:=fun X I k=>xclass X I c (findObj_class c) k
end
theorem qcz {r:List Value} (e:qeL (.ref c::r)=true):qeL r=true:=by
 cases r with
 | nil=>cases e
 | cons a r=>exact e
theorem qcA:∀ {l:List Value},qeL l=true->∃ rs:List Addr,l=rs.map Value.ref++[.type "ValueError",.type "Exception",.type "BaseException",.type "object"]
 | [],e=>by cases e
 | .ref c::r,e=>by
  obtain ⟨rs,q⟩:=qcA (qcz e);exact ⟨c::rs,by rw [q];rfl⟩
 | .type a::r,e=>by
  match r,e with
  | [.type b,.type c,.type d],e =>
   simp only [qeL,Ye,Yo] at e;obtain ⟨⟨⟨rfl,rfl⟩,rfl⟩,rfl⟩:=e;exact ⟨[],rfl⟩
theorem refuse_exc (self:Value) {l:List Value} (e:qeL l=true):refuseLoop self "__setattr__" l=pure ():=by
 obtain ⟨rs,rfl⟩:=qcA e
 induction rs with
 | nil=>exact PySem.F.store_ValueError.passes self
 | cons c rs ih=>rw [Yy,kz,refuseLoop_ref];exact ih (qcz e)
section
variable {prog:Program} {w:World} {A:Around} {E:Value->Shared->Prop} {s:Shared} {K:yg} {x C:Addr} {name:Str} {v:Value} {R:Result->Shared->Prop}
theorem xosa (X:K.In s.heap) (I:PySem.W.InstAt s.heap x ox C od) (c:XAt K C) (n:NoAttr K C name)
  (h:wpAny (model prog w) A.in1 (Builtin.ObjectAttr.storeInOwnDict (.ref x) (.ref C) (.str name tk) name v false)
   (fun fin s'=>match fin with | .done f=>R (.ok f) s' | .again c'=>c'.quiet=true/\codeAny (model prog w) A c' R s') (fun e s'=>R (.error e) s') s) :
  codeAny (model prog w) A (.call (.builtin "object.__setattr__") ⟨[.ref x,.str name tk,v],[]⟩) R s:=by
 have SF:=PySem.F.store_object;obtain ⟨cd,hc,ho⟩:=xM c.mr;have hm:PySem.W.Looks (model prog w) s.heap (mroOf (.ref C)) cd.mro:=(X7 X hc).andThen .now;refine Xh SF.slot.plain SF.entry (@PySem.W.check_slot (model prog w) _ _ s "object.__setattr__" "object" "__setattr__" (.ref x) [.str name tk,v] [] _ SF.kind SF.split (I.type.andThen (xJ X c.ob)) (SF.args (.ref x) (.str name tk) v) ?_);rw [PySem.W.osa_eq,refuse_eq];refine yr (yr (I.type.here (yr (hm.here ?_))));rw [refuse_exc _ ho];refine yx (yr (I.type.here (yr ((Y4 X n).here (yr (yx ?_))))));exact h
theorem xset {vs:Array Value} (X:K.In s.heap) (hx:s.heap.get? x=some ⟨.ref C,none,.fields vs,#[]⟩) (c:XAt K C) (n:NoAttr K C name) {Q:Unit->Shared->Prop}
  (h:∀ h',h'.get? x=some ⟨.ref C,some s.heap.objs.size,.fields vs,#[]⟩->h'.Ns1 s.heap.objs.size (fun y=>if y=name then some v else none)->(∀ b o,b≠x->s.heap.get? b=some o->h'.get? b=some o) ->
   Q () { s with heap:=h',toks:=s.toks + 2 }):wpAny (model prog w) A (setAttr (.ref x) name v) Q E s:=by
 have I:PySem.W.InstAt s.heap x ⟨.ref C,none,.fields vs,#[]⟩ C none:=⟨hx,rfl,rfl,YQ⟩;obtain ⟨cd,hc,hd⟩:=xM c.hd;refine PySem.W.set_plain X I c.sa (xosa (s:={ s with toks:=s.toks + 1 }) X I c n ?_);refine yr (yx (yr (yr (wpAny_loadPart hx (yr ((X7 X hc).here (s:={ s with toks:=s.toks + 1 }) ?_))))));rw [hd];obtain ⟨hh,g,dr,tk,os⟩:=s;show wpAny _ _ (alloc { cls:=.type "dict",data:=.dict #[] }>>=fun d=>update x (fun o=>{ cls:=o.cls,dict:=some d,data:=o.data,slots:=o.slots })>>=fun _=>pure (some d)) _ _ _;have hxs:x≠hh.objs.size:=yN (yK hx);have hx1:=yw { cls:=.type "dict",data:=.dict #[] } hx;refine yr (wpAny_alloc' (yr (wpAny_update' hx1 (yx ?_))));have hx2:=YU (fun o:Obj=>{ cls:=o.cls,dict:=some hh.objs.size,data:=o.data,slots:=o.slots }) hx1 rfl;have hd2:=(Heap.get?_update_ne (hh.push { cls:=.type "dict",data:=.dict #[] }) hh.objs.size x (fun o:Obj=>{ cls:=o.cls,dict:=some hh.objs.size,data:=o.data,slots:=o.slots }) hxs.symm).trans (Heap.get?_push_at rfl rfl);generalize hg:(hh.push { cls:=.type "dict",data:=.dict #[] }).update x (fun o:Obj=>{ cls:=o.cls,dict:=some hh.objs.size,data:=o.data,slots:=o.slots })=h2 at hx2 hd2 ⊢;have nd:h2.Ns hh.objs.size (fun _=>none):=⟨_,#[],_,hd2,rfl,fun e he=>absurd he (by simp),fun _=>rfl⟩;show wpAny _ _ (Builtin.ObjectAttr.storeInDict hh.objs.size (.str name tk) name v) _ _ _;unfold Builtin.ObjectAttr.storeInDict Builtin.ObjectAttr.newKeyGuard;refine yr (yx (yr (wpAny_nsSet1 (Heap.Ns1.of_empty nd) fun h' n2 sb=>?_)));obtain ⟨oD,esD,epD,hoD,hdD,hcD⟩:=n2.count (PySem.Within.cons name v PySem.Within.nil);have hz:esD.size<=sizeLine:=yi hcD (by rw [yA,YM,YC];omega);refine yr (wpAny_lookBehind hoD (by rw [hdD];exact pastItsLine_dict (ki hz)) ?_);refine yx (h h' ((sb.2 x hxs).trans hx2) n2 fun b o hb e=>(sb.2 b (yN (yK e))).trans ?_);rw [<- hg];exact (Heap.get?_update_ne _ _ _ _ hb).trans (yw _ e)
noncomputable abbrev xfs (a0:Addr):Array Value:=#[.ref a0,.none,.none,.none,.bool false,.none]
end
section
variable {prog:Program} {w:World} {A:Around} {R:Result->Shared->Prop} {E:Value->Shared->Prop} {h:Heap} {g:Array GenState} {d:Drawn} {t:Nat} {os:OsState}
variable {nm q:Str} {C N:Addr} {bs bm:List Value} {hdct:Bool} {sn:List Str} {sub:List Value} {ab:Bool} {col:Option Bool} {dd:Option Addr} {k0 k1 k2 k3 k5:Option Value}
end
noncomputable def XN (e C:Addr) (dx:Option Addr):HO:=.ext fun h=>∃ a0,h.get? e=some ⟨.ref C,dx,.fields (xfs a0),#[]⟩
noncomputable def XO (e C:Addr) (dx:Option Addr):HO:=.ext fun h=>∃ vs,h.get? e=some ⟨.ref C,dx,.fields vs,#[]⟩
theorem XN.ok {a0:Addr} (q:h.get? e=some ⟨.ref C,dx,.fields (xfs a0),#[]⟩):ObjOk P w H h e (XN e C dx):=
 ⟨⟨a0,q⟩,⟨_,q⟩,fun _ _ ⟨a,x⟩ k=>⟨a,k _ x⟩⟩
noncomputable def IsX (H:Hp) (e C:Addr) (dx:Option Addr):Prop:=H e=some (XN e C dx)\/H e=some (XO e C dx)
theorem IsX.get (q:IsX H e C dx) (hok:HOk P w H h):∃ vs,h.get? e=some ⟨.ref C,dx,.fields vs,#[]⟩:=by
 rcases q with q | q
 ·obtain ⟨⟨a,x⟩,_⟩:=(show ObjOk P w H h e (XN e C dx) from hok e _ q);exact ⟨_,x⟩
 ·obtain ⟨⟨a,x⟩,_⟩:=(show ObjOk P w H h e (XO e C dx) from hok e _ q);exact ⟨_,x⟩
section
variable {X:Cx} {pins:List (Addr×Obj)} {σ:St} {H:Hp} {s:Shared} {e C:Addr} {dx:Option Addr}
theorem qeM (I:Inv X pins σ H s) {d:Addr} {fs:List (Str×V)} (h:H d=some (.xd fs)):∃ (od:Obj) (mA:Str->Option Value),s.heap.get? d=some od/\(∀ name,PySem.W.lookIn name od=some (mA name))/\∀ f,RelO (fs.lookup f) (mA f):=by
 obtain ⟨mA,n,r⟩:=(show ObjOk X.prog X.w H s.heap d (.xd fs) from I.hok d _ h);obtain ⟨od,h1,h2⟩:=qcm n;exact ⟨od,mA,h1,h2,r⟩
end
section
variable {X:Cx} {pins:List (Addr×Obj)} {σ:St} {H:Hp} {s:Shared} {a d:Addr} {h':Heap} {o u:HO} {t':Nat}
theorem Inv.both (I:Inv X pins σ H s) (mu:Mut (H a)) (hd:s.heap.objs.size<=d) (k:∀ b v,b≠a->s.heap.get? b=some v->h'.get? b=some v) (ha:∃ v,h'.get? a=some v)
  (n1:ObjOk X.prog X.w (upd (upd H d u) a o) h' a o) (n2:ObjOk X.prog X.w (upd (upd H d u) a o) h' d u) (ne:d≠a):Inv X pins σ (upd (upd H d u) a o) { s with heap:=h',toks:=t' }:=by
 have nd:H d=none:=I.hok.fresh hd;have na:∀ b q,H b=some q->¬ Mut (some q)->b≠a:=fun b q e nm z=>by subst z;rw [e] at mu;exact nm mu
 have nn:∀ b,H b=none->b≠a:=fun b e z=>by subst z;rw [e] at mu;exact mu
 have big:∀ b v,s.heap.get? b=some v->b≠d:=fun b v e=>yN (yj (yK e) hd);have up:∀ b q,H b=some q->b≠a->upd (upd H d u) a o b=some q:=fun b q e n=>by rw [qf n,qf (qD e nd)];exact e
 refine I.un ⟨fun b v e n _ _=>k b v (nn b n) e,fun b v e n _ _=>⟨v.slots,k b v (nn b n) e⟩,fun b v e n _=>by rw [qf (nn b n),qf (big b v e)];exact n,fun b v e _=>?_,fun b xs e=>up b _ e (na b _ e fun z=>z),fun b q xs e=>up b _ e (na b _ e fun z=>z),
  fun b ps e=>⟨#[],by rw [up b _ e (na b _ e fun z=>z)];simp⟩⟩ fun b q e=>?_
 ·by_cases hb:b=a
  ·subst hb;exact ha
  ·exact ⟨v,k b v hb e⟩
 ·by_cases hb:b=a
  ·subst hb;rw [qb] at e;cases e;exact n1
  ·rw [qf hb] at e;by_cases hbd:b=d
   ·subst hbd;rw [qb] at e;cases e;exact n2
   ·rw [qf hbd] at e;refine (I.hok b q e).stay (fun c v hc r=>k c v ?_ r) (fun c r=>up c _ r (na c _ r fun z=>z)) fun c xs r=>up c _ r (na c _ r fun z=>z);rcases hc with rfl | hc
    ·exact hb
    ·exact na c _ hc fun z=>z
end
noncomputable def qfy (K:yg) (ta:TE) (f:Str):TE:=fun σ H Q=>ta σ H fun x H1=>(∃ a C dx fs v,x=.ref a/\H1 a=some (.ins C dx fs)/\Cls K C/\NoAttr K C f/\fs.lookup f=some v/\Q v H1) \/
 (∃ a C dx fs v,x=.ref a/\IsX H1 a C (some dx)/\XAt K C/\NoAttr K C f/\H1 dx=some (.xd fs)/\fs.lookup f=some v/\Q v H1)
noncomputable def qfz (K:yg) (ta tv:TE) (f:Str):TS:=fun D σ H=>tv σ H fun y H1=>ta σ H1 fun x H2=>(∃ a C dx fs,x=.ref a/\H2 a=some (.ins C dx fs)/\Cls K C/\NoAttr K C f/\fs.length < 1000 /\
  D.nx σ (upd H2 a (.ins C dx (qG f y fs)))) \/
 (∃ a C,x=.ref a/\H2 a=some (XN a C none)/\XAt K C/\NoAttr K C f/\∀ dx,H2 dx=none->D.nx σ (upd (upd H2 dx (.xd [(f,y)])) a (XN a C (some dx))))
section
variable {X:Cx} {o e value:Expr} {f:Str} {pos pos':Pos} {ta tv:TE} {K:yg}
theorem qA (hK:X.K=K) (he:PE X e ta) (hb:attributeBase e f X.env (eval e X.env)=eval e X.env):PE X (.Attribute e f pos) (qfy K ta f):=by
 subst hK;intro pins s σ H Q I h;refine attr_of hb (thn (he pins s σ H _ I h) fun u s1 ⟨x,H1,I1,rx,hx⟩=>?_);rcases hx with ⟨a,C,dx,fs,v,rfl,ea,c,n,l,q⟩ | ⟨a,C,dx,fs,v,rfl,ea,c,n,hd,l,q⟩
 ·obtain rfl:u=Value.ref a:=rx;exact getattr_ok I1 ea c n l fun u' s2 I2 ru=>⟨v,H1,I2,ru,q⟩
 ·obtain rfl:u=Value.ref a:=rx;obtain ⟨vs,hx⟩:=ea.get I1.hok;obtain ⟨od,mA,h1,h2,r⟩:=qeM I1 hd;obtain ⟨u',hu,ru⟩:=RelO.some_of (v:=v) (o:=mA f) (by rw [<- l];exact r f);exact xget I1.kIn (od:=some od) ⟨hx,rfl,rfl,h1⟩ c (PySem.W.findObj_own c.hd n rfl (by rw [h2,hu])) (qcn ru) ⟨v,H1,I1.tok _,ru,q⟩
theorem jY (hK:X.K=K) (ha:PE X o ta) (hv:PE X value tv) (hs:swapsWith value (some (.Attribute o f pos')) pos.line X.env=pure false):PS X (.Assign [.Attribute o f pos'] value pos) (qfz K ta tv f):=by
 subst hK;intro pins s σ H D I h;refine plainObj_wpAny_Assign_Attribute (thn (hv pins s σ H _ I h) fun u s1 ⟨y,H1,I1,ry,q⟩=>thn (ha pins s1 σ H1 _ I1 q) fun ov s2 ⟨x,H2,I2,rx,hx⟩=>?_) hs;rcases hx with ⟨a,C,dx,fs,rfl,ea,c,n,l,q2⟩ | ⟨a,C,rfl,ea,c,n,q2⟩
 ·obtain rfl:ov=Value.ref a:=rx;exact setattr_ok I2 ea c n l ry fun s3 I3=>⟨σ,_,I3,q2⟩
 ·obtain rfl:ov=Value.ref a:=rx;obtain ⟨⟨a0,hx⟩,_⟩:=(show ObjOk X.prog X.w H2 s2.heap a (XN a C none) from I2.hok a _ ea);refine xset I2.kIn hx c n fun h' g1 g2 g3=>?_;have nd:H2 s2.heap.objs.size=none:=I2.hok.fresh (yh _);have ne:s2.heap.objs.size≠a:=Yh (yK hx);refine ⟨σ,_,I2.both (o:=XN a C (some s2.heap.objs.size)) (u:=.xd [(f,y)]) (by rw [ea];exact YQ) (yh _) g3 ⟨_,g1⟩ (XN.ok g1) ⟨_,g2,fun g=>?_⟩ ne,q2 _ nd⟩;by_cases hg:g=f
  ·subst hg;simp only [List.lookup,xP,Xz];exact ry
  ·have hb:(g==f)=false:=YJ.mpr hg;simp only [List.lookup,hb,yC hg];exact YQ
end
noncomputable def tXMake (C:Addr) (sp:Sp) (E:XK) (t:TA):TE:=fun σ H Q=>t σ H fun vs H1=>vs.length<=1000/\∀ x,H1 x=none->sp (.ref x::vs) (upd H1 x (XN x C none)) (fun v H2=>v=.non/\Q (.ref x) H2) E
structure XMk (K:yg) (C f:Addr):Prop where
 at_:XAt K C
 init:PySem.W.findIn K (.ref C) "__init__"=some (some (.ref f))
 fn:PySem.W.isFn K (.ref f)=true
 kp:PySem.W.keepIn K (.ref C)=true
section
variable {X:Cx} {CX:CXT} {k:Nat} {f C:Addr} {fd:FuncData} {ps:List Str} {sp:Sp} {E:XK} {x m:Str} {p pos apos:Pos} {e o:Expr} {es:List Expr} {ta:TE} {t:TA}
structure CMeth (K:yg) (C:Addr) (m:Str) (f:Addr):Prop where
 rd:PySem.W.readsIn K C (.type "type")=true
 at_:PySem.W.findCls K (.ref C) (.type "type") m=some (.val (.ref f))
 ga:PySem.W.specialIn K (.ref C) "__getattribute__"=some (some (.builtin "type.__getattribute__"))
 kp:PySem.W.keepIn K (.ref f)=true
end
noncomputable def tVinit (K:yg) (t:TA):TE:=fun σ H Q=>t σ H fun vs H1=>∃ a C y,vs=[.ref a,y]/\H1 a=some (XN a C none)/\XAt K C/\Q .non H1
structure VInit (K:yg):Prop where
 ga:PySem.W.findIn K (.type "type") "__getattribute__"=some (some (.builtin "type.__getattribute__"))
 su:PySem.W.subIn K (.type "type") (.type "type")=some true
 at_:PySem.W.findCls K (.type "ValueError") (.type "type") "__init__"=some (.val (.builtin "ValueError.__init__"))
section
variable {X:Cx} {p pos apos:Pos} {e:Expr} {es:List Expr} {t:TA} {K:yg}
end
structure Keep (fs zs:List Addr) (h h':Heap):Prop where
 keep:∀ b o,h.get? b=some o->b∉zs->b∉fs->h'.get? b=some o
 slot:∀ b o,h.get? b=some o->b∉zs->b∈fs->∃ sl,h'.get? b=some { o with slots:=sl }
structure Trc (h:Heap) (e:Addr) (C:Value) (dx:Option Addr) (T:Addr) (fl:Value):Prop where
 ex:∃ vs,h.get? e=some ⟨C,dx,.fields vs,#[]⟩/\vs[1]?=some (.ref T)/\vs[2]?=some .none
 tb:∃ ts,h.get? T=some ⟨.type "traceback",none,.fields ts,#[]⟩/\ts[3]?=some fl
 ne:T≠e
section
variable {M:Model} {A:Around} {E:Value->Shared->Prop} {s:Shared} {base:Heap} {env:Env} {outer:List Env} {L e:Addr} {C:Value} {dx:Option Addr} {vs:Array Value}
end
noncomputable def CX1 (P:Program) (w:World):CXT:=fun outer H s E ev s'=>∃ (a C:Addr) (dx:Option Addr) (T:Addr) (H':Hp),ev=.ref a/\s'.os=s.os/\AllBare s'.gens/\Un (frs outer) [] H H' s.heap s'.heap/\HOk P w H' s'.heap /\
 H' a=some (XO a C dx)/\Trc s'.heap a (.ref C) dx T .none/\s.heap.objs.size<=T/\H' T=none/\E (.ref C) dx H'
section
variable {X:Cx} {pins:List (Addr×Obj)} {σ:St} {H:Hp} {s:Shared}
end
structure XOk (X:Cx) (EK:St->XK):Prop where
 pass:∀ (pins:List (Addr×Obj)) (σ:St) (H:Hp) (s:Shared) (e:Value) (s':Shared),Inv X pins σ H s->CX1 X.prog X.w X.stack H s (EK σ) e s'->X.xe e s'
 rais:∀ (pins:List (Addr×Obj)) (σ:St) (H:Hp) (s:Shared) (a C:Addr) (dx:Option Addr),Inv X pins σ H s->H a=some (XN a C dx)->EK σ (.ref C) dx (upd H a (XO a C dx))->X.xe (.ref a) s
 calm:X.calm=true
section
variable {P:Program} {w:World} {K:yg} {mg:Str->Option Value} {base:Heap} {N:List Str} {qual:Str} {scope:Scope} {f:Addr} {cd:Value} {A:Around} {outer:List Env} {s0:Shared} {H0:Hp} {E:XK}
end
noncomputable def tRaise (K:yg) (EK:St->XK) (te:TE):TS:=fun _ σ H=>te σ H fun x H1=>∃ a C dx,x=.ref a/\H1 a=some (XN a C dx)/\XAt K C/\EK σ (.ref C) dx (upd H1 a (XO a C dx))
section
variable {X:Cx} {EK:St->XK} {e:Expr} {te:TE} {pos:Pos} {K:yg}
end
noncomputable def tCallS (sp:Sp) (EK:St->XK) (t:TA):TE:=fun σ H Q=>t σ H fun vs H1=>sp vs H1 Q (EK σ)
noncomputable def tMethS (C:Addr) (m:Str) (sp:Sp) (EK:St->XK) (ta:TE) (t:TA):TE:=fun σ H Q=>ta σ H fun x H1=>∃ a dx fs,x=.ref a/\H1 a=some (.ins C dx fs)/\fs.lookup m=none/\t σ H1 fun vs H2=>sp (x::vs) H2 Q (EK σ)
noncomputable def tMakeS (C:Addr) (sp:Sp) (EK:St->XK) (t:TA):TE:=fun σ H Q=>t σ H fun vs H1=>∀ x dx,H1 x=none->H1 dx=none->dx≠x ->
 sp (.ref x::vs) (upd (upd H1 dx (.own x)) x (.ins C dx [])) (fun v H2=>v=.non/\Q (.ref x) H2) (EK σ)
structure MethOk (P:Program) (w:World) (K:yg) (mg:Str->Option Value) (base:Heap) (CX:CXT) (k:Nat) (C:Addr) (m:Str) (ps:List Str) (sp:Sp):Prop where
 ex:∃ f fd,FnOk P w K mg base CX k f fd ps sp/\Meth K C m f/\Binds K fd ps []
 cl:Cls K C
structure MakeOk (P:Program) (w:World) (K:yg) (mg:Str->Option Value) (base:Heap) (CX:CXT) (k:Nat) (C:Addr) (x:Str) (ps:List Str) (sp:Sp):Prop where
 ex:∃ f fd,FnOk P w K mg base CX k f fd ps sp/\Mk K C f/\Binds K fd ps []
 mg_:mg x=some (.ref C)
structure XMakeOk (P:Program) (w:World) (K:yg) (mg:Str->Option Value) (base:Heap) (k:Nat) (C:Addr) (x:Str) (ps:List Str) (sp:Sp):Prop where
 ex:∃ f fd,FnOk P w K mg base CX0 k f fd ps sp/\XMk K C f/\Binds K fd ps []
 mg_:mg x=some (.ref C)
section
variable {X:Cx} {EK:St->XK} {k:Nat} {f C:Addr} {fd:FuncData} {ps:List Str} {sp:Sp} {x m:Str} {p pos apos:Pos} {e o:Expr} {es:List Expr} {ta:TE} {t:TA}
theorem qE {pl:Sem Bool} (D:MethOk X.prog X.w X.K X.mg X.base CX0 k C m ps sp) (hr:Room k X.A) (he:PE X o ta) (ha:PA X (e::es) t)
  (hst:starEach (e::es) X.env=(false,eval e X.env)::starEach es X.env:=by rfl) (hpl:(backTo pos (starEach es X.env)).any (·.1)=false:=by rfl)
  (ht:eval (.Call (.Attribute o m apos) (e::es) [] pos) X.env=(do
   let ov <- eval o X.env
   standAt apos.atName
   let (f,first) <- holding [ov] (getMethod ov m pl)
   callWith pos f first (backTo pos (starEach (e::es) X.env)) (backToKw pos (keywordEach [] X.env))):=by rfl) :
  PE X (.Call (.Attribute o m apos) (e::es) [] pos) (qdW C m sp [] E0 ta t):=by
 obtain ⟨f,fd,F,hm,hb⟩:=D.ex;exact pe_meth (pl:=pl) he D.cl hm F hr hb .nil qw ha hst hpl ht
theorem qX {pl:Sem Bool} (D:MethOk X.prog X.w X.K X.mg X.base CX0 k C m ps sp) (hr:Room k X.A) (he:PE X o ta)
  (ht:eval (.Call (.Attribute o m apos) [] [] pos) X.env=(do
   let ov <- eval o X.env
   standAt apos.atName
   let (f,first) <- holding [ov] (getMethod ov m pl)
   callWith pos f first (backTo pos (starEach [] X.env)) (backToKw pos (keywordEach [] X.env))):=by rfl) :
  PE X (.Call (.Attribute o m apos) [] [] pos) (qdW C m sp [] E0 ta qfM):=by
 obtain ⟨f,fd,F,hm,hb⟩:=D.ex;exact pe_meth0 (pl:=pl) he D.cl hm F hr hb .nil qw ht
end
section
variable {P:Program} {w:World} {K:yg} {mg:Str->Option Value} {base:Heap}
end
noncomputable abbrev Cx.tried (X:Cx) (pn:List (Addr×Obj)) (E:Value->Shared->Prop):Cx:={ X with pn:=pn,xe:=E }
noncomputable abbrev Cx.hand (X:Cx) (a:Addr):Cx:={ X with A:=X.A.mark (some (.ref a)),calm:=false,xe:=fun _ _=>False }
section
variable {X:Cx} {pins pins':List (Addr×Obj)} {σ:St} {H:Hp} {s:Shared} {E:Value->Shared->Prop} {a:Addr}
structure Loose (X:Cx) (pins:List (Addr×Obj)) (H:Hp) (T:Addr):Prop where
 hn:H T=none
 lo:X.s₀.heap.objs.size<=T
 nl:T≠X.env.locals
 nf:T∉X.fs
 nc:∀ x c,X.env.cells.lookup x=some c->c≠T
 np:∀ p∈X.pn++pins,p.1≠T
end
structure Held (X:Cx) (pins:List (Addr×Obj)) (H:Hp) (h:Heap) (a C:Addr) (dx:Option Addr):Prop where
 at_:H a=some (XO a C dx)
 tr:∃ T,Trc h a (.ref C) dx T .none/\Loose X pins H T
section
variable {X:Cx} {a C D:Addr} {dx:Option Addr} {c n:Str} {cp pos:Pos} {b0:Stmt} {body:List Stmt} {qcT:List ExceptHandler} {tb tr:TS} {i:Nat} {K:yg}
end
section
variable {X:Cx} {body orelse:List Stmt} {h0:ExceptHandler} {hs:List ExceptHandler} {pos:Pos} {te:TS}
end
noncomputable def TyX (K:yg) (H:Hp) (x:V) (t:Value):Prop:=TyOf K H x t\/∃ a C dx,x=.ref a/\t=.ref C/\IsX H a C dx/\XAt K C/\∀ d,dx=some d->∃ fs,H d=some (.xd fs)
theorem TyX.kit {x:V} (I:Inv X pins σ H s) (rx:RelV x u) (ty:TyX X.K H x t):∃ P:Heap->Prop,PySem.W.KitX X.K u t P/\P s.heap/\u≠.builtin "__main__.__loader__#opaque":=by
 rcases ty with ty | ⟨a,C,dx,rfl,rfl,hx,c,hd⟩
 ·exact ty.kit I rx
 ·cases rx;obtain ⟨vs,he⟩:=hx.get I.hok
  cases dx with
  | none=>exact ⟨_,qdw (od:=none) c,⟨he,rfl,rfl,YQ⟩,fun z=>nomatch z⟩
  | some d =>
   obtain ⟨fs,hf⟩:=hd d rfl;obtain ⟨od,mA,h1,_⟩:=qeM I hf;exact ⟨_,qdw (od:=some od) c,⟨he,rfl,rfl,h1⟩,fun z=>nomatch z⟩
inductive rIsiU (K:yg) (xs:List V) (H:Hp) (Q:VK):Prop|mk (x y t c b:_) (_:xs=[x,y]) (_:TyX K H x t) (_:qbu y=some c) (_:PySem.W.kitOne K t c=some b) (_:Q (.bl b) H)
inductive rIsiTU (K:yg) (xs:List V) (H:Hp) (Q:VK):Prop|mk (x p ys t cs b:_) (_:xs=[x,.ref p]) (_:TyX K H x t) (_:H p=some (.tup ys)) (_:ys.map qbu=cs.map some) (_:PySem.W.kitAny K t cs=some b) (_:Q (.bl b) H)
section
variable {X:Cx} {K:yg}
theorem qbT (hK:X.K=K):zL X (.builtin "isinstance") (rIsiU K):=by
 subst hK;intro pins s σ H xs us Q I r h;obtain ⟨x,y,t,c,b,rfl,ty,hy,hb,q⟩:=h;obtain ⟨u,v,rfl,ru,rv⟩:=qeA r;have e:=qbS hy rv;subst e;obtain ⟨P,Z,p,ne⟩:=ty.kit I ru;exact PySem.W.kia_one Z I.kIn p hb ne fun tk=>⟨.bl b,H,I.tok tk,rfl,q⟩
theorem qc3 (hK:X.K=K):zL X (.builtin "isinstance") (rIsiTU K):=by
 subst hK;intro pins s σ H xs us Q I r h;obtain ⟨x,p,ys,t,cs,b,rfl,ty,hp,hy,hb,q⟩:=h;obtain ⟨u,v,rfl,ru,rv⟩:=qeA r;cases rv;obtain ⟨P,Z,pz,ne⟩:=ty.kit I ru;obtain ⟨_,its,rv,o,ho,hc,n,hd⟩:=(show ObjOk X.prog X.w H s.heap p (.tup ys) from I.hok p _ hp);have e:=qbv hy rv;subst e;obtain ⟨c,dd,dt,sl⟩:=o;have hc':c=.type "tuple":=hc;have hd':dt=.seq its.toArray n:=hd;subst hc' hd';exact PySem.W.kia_tup Z I.kIn pz ho hb ne fun tk=>⟨.bl b,H,I.tok tk,rfl,q⟩
end
mutual
inductive EqD (K:yg) (H:Hp):Nat->V->V->Bool->Prop
 | flat {n:Nat} {x y:V} (fx:zM x=true) (fy:zM y=true):EqD K H n x y (eqV x y)
 | self {n:Nat} {a:Addr}:EqD K H n (.ref a) (.ref a) true
 | deep {n:Nat} {a b:Addr} {k:Bool} (h:EqT K H n a b k) (ne:a≠b):EqD K H n (.ref a) (.ref b) k
inductive EqT (K:yg) (H:Hp):Nat->Addr->Addr->Bool->Prop
 | lst {n:Nat} {a b:Addr} {xs ys:List V} {e:Nat->Bool} (ha:SqL K H a xs) (hb:SqL K H b ys) (hl:xs.length=ys.length) (he:∀ j x y,xs[j]?=some x->ys[j]?=some y->EqD K H n x y (e j)):EqT K H (n + 1) a b ((List.range xs.length).all e)
 | lstL {n:Nat} {a b:Addr} {xs ys:List V} (ha:SqL K H a xs) (hb:SqL K H b ys) (hl:xs.length≠ys.length):EqT K H (n + 1) a b false
 | tup {n:Nat} {a b:Addr} {xs ys:List V} {e:Nat->Bool} (ha:SqT K H a xs) (hb:SqT K H b ys) (he:∀ j x y,xs[j]?=some x->ys[j]?=some y->EqD K H n x y (e j)):EqT K H (n + 1) a b ((List.range (min xs.length ys.length)).all e&&xs.length==ys.length)
 | lt {n:Nat} {a b:Addr} {xs ys:List V} (ha:SqL K H a xs) (hb:SqT K H b ys):EqT K H (n + 1) a b false
 | tl {n:Nat} {a b:Addr} {xs ys:List V} (ha:SqT K H a xs) (hb:SqL K H b ys):EqT K H (n + 1) a b false
end
theorem ju:∀ {xs:List V} {us:List Value} {j:Nat} {u:Value},Vals xs us->us[j]?=some u->∃ x,xs[j]?=some x/\RelV x u
 | _,_,_,_,.nil,e=>by simp at e
 | _,_,0,_,.cons r _,e=>by simp at e;subst e;exact ⟨_,rfl,r⟩
 | _,_,j + 1,u,.cons _ t,e=>by
  obtain ⟨x,h1,h2⟩:=ju (j:=j) (u:=u) t (by simpa using e);exact ⟨x,by simpa using h1,h2⟩
section
variable {X:Cx} {pins:List (Addr×Obj)} {σ:St} {H:Hp} {s:Shared}
theorem qc4 (I:Inv X pins σ H s):∀ n,(∀ (A:Around) (x y:V) (k:Bool) (u v:Value),EqD X.K H n x y k->RelV x u->RelV y v->A.units + n < cLine->SeqAt.EqAt A s u v k)/\(∀ (A:Around) (a b:Addr) (k:Bool),EqT X.K H n a b k->A.units + n < cLine->SeqAt.RcAt A s (.ref a) (.ref b) k):=by
 intro n
 induction n with
 | zero =>
  have t0:∀ (A:Around) (a b:Addr) (k:Bool),EqT X.K H 0 a b k->A.units + 0 < cLine->SeqAt.RcAt A s (.ref a) (.ref b) k:=fun A a b k h=>by cases h
  refine ⟨fun A x y k u v h rx ry hu=>?_,t0⟩
  cases h with
  | flat fx fy=>exact qd0 rx ry fx fy
  | self=>cases rx;cases ry;exact XX _
  | deep h ne=>cases h
 | succ n ih =>
  have t1:∀ (A:Around) (a b:Addr) (k:Bool),EqT X.K H (n + 1) a b k->A.units + (n + 1) < cLine->SeqAt.RcAt A s (.ref a) (.ref b) k:=fun A a b k h hu=>by
   have hu0:A.units < cLine:=by omega
   have hu1:A.in1.units + n < cLine:=by show A.units + 1 + n < cLine;omega
   cases h with
   | @lst _ _ _ xs ys e ha hb hl he =>
    obtain ⟨its,r,pl,hz⟩:=I.list ha;obtain ⟨its2,r2,pl2,hz2⟩:=I.list hb;have e1:xs.length=its.toArray.size:=by rw [yv];exact r.length
    have e2:ys.length=its2.toArray.size:=by rw [yv];exact r2.length
    rw [e1];refine SeqAt.RcAt.lists pl.isList pl2.isList (by rw [<- e1,<- e2,hl]) hu0 fun j h1 h2=>?_;have g1:its[j]?=some its.toArray[j]:=by simp
    have g2:its2[j]?=some its2.toArray[j]:=by simp
    obtain ⟨x,hx,rx⟩:=ju r g1;obtain ⟨y,hy,ry⟩:=ju r2 g2;exact ih.1 A.in1 x y (e j) _ _ (he j x y hx hy) rx ry hu1
   | @lstL _ _ _ xs ys ha hb hl =>
    obtain ⟨its,r,pl,hz⟩:=I.list ha;obtain ⟨its2,r2,pl2,hz2⟩:=I.list hb;refine SeqAt.RcAt.lists_lengths pl.isList pl2.isList ?_ hu0;rw [yv,yv,<- r.length,<- r2.length];simp [hl]
   | @tup _ _ _ xs ys e ha hb he =>
    obtain ⟨its,r,pl,hz⟩:=I.tuple ha;obtain ⟨its2,r2,pl2,hz2⟩:=I.tuple hb;have e1:xs.length=its.toArray.size:=by rw [yv];exact r.length
    have e2:ys.length=its2.toArray.size:=by rw [yv];exact r2.length
    rw [e1,e2];refine SeqAt.RcAt.tuples pl pl2 hu0 fun j h1 h2=>?_;have g1:its[j]?=some its.toArray[j]:=by simp
    have g2:its2[j]?=some its2.toArray[j]:=by simp
    obtain ⟨x,hx,rx⟩:=ju r g1;obtain ⟨y,hy,ry⟩:=ju r2 g2;exact ih.1 A.in1 x y (e j) _ _ (he j x y hx hy) rx ry hu1
   | lt ha hb =>
    obtain ⟨its,r,pl,hz⟩:=I.list ha;obtain ⟨its2,r2,pl2,hz2⟩:=I.tuple hb;exact SeqAt.RcAt.list_tuple pl.isList pl2 hu0
   | tl ha hb =>
    obtain ⟨its,r,pl,hz⟩:=I.tuple ha;obtain ⟨its2,r2,pl2,hz2⟩:=I.list hb;exact SeqAt.RcAt.tuple_list pl pl2.isList hu0
  refine ⟨fun A x y k u v h rx ry hu=>?_,t1⟩
  cases h with
  | flat fx fy=>exact qd0 rx ry fx fy
  | self=>cases rx;cases ry;exact XX _
  | deep h ne=>cases rx;cases ry;exact SeqAt.EqAt.of_refs ne (t1 A _ _ k h hu)
theorem ne_refs (I:Inv X pins σ H s) {n:Nat} {A:Around} {a b:Addr} {k:Bool} (h:EqT X.K H n a b k) (hu:A.units + n < cLine):SeqAt.RcNeAt A s (.ref a) (.ref b) (!k):=by
 cases n with
 | zero=>cases h
 | succ n =>
  have ih:=qc4 I n;have hu0:A.units < cLine:=by omega
  have hu1:A.in1.units + n < cLine:=by show A.units + 1 + n < cLine;omega
  cases h with
  | @lst _ _ _ xs ys e ha hb hl he =>
   obtain ⟨its,r,pl,hz⟩:=I.list ha;obtain ⟨its2,r2,pl2,hz2⟩:=I.list hb;have e1:xs.length=its.toArray.size:=by rw [yv];exact r.length
   have e2:ys.length=its2.toArray.size:=by rw [yv];exact r2.length
   rw [e1];refine SeqAt.RcNeAt.lists pl.isList pl2.isList (by rw [<- e1,<- e2,hl]) hu0 fun j h1 h2=>?_;obtain ⟨x,hx,rx⟩:=ju r (show its[j]?=some its.toArray[j] by simp);obtain ⟨y,hy,ry⟩:=ju r2 (show its2[j]?=some its2.toArray[j] by simp);exact ih.1 A.in1 x y (e j) _ _ (he j x y hx hy) rx ry hu1
  | @lstL _ _ _ xs ys ha hb hl =>
   obtain ⟨its,r,pl,hz⟩:=I.list ha;obtain ⟨its2,r2,pl2,hz2⟩:=I.list hb;refine SeqAt.RcNeAt.lists_lengths pl.isList pl2.isList ?_ hu0;rw [yv,yv,<- r.length,<- r2.length];simp [hl]
  | @tup _ _ _ xs ys e ha hb he =>
   obtain ⟨its,r,pl,hz⟩:=I.tuple ha;obtain ⟨its2,r2,pl2,hz2⟩:=I.tuple hb;have e1:xs.length=its.toArray.size:=by rw [yv];exact r.length
   have e2:ys.length=its2.toArray.size:=by rw [yv];exact r2.length
   rw [e1,e2];refine SeqAt.RcNeAt.tuples pl pl2 hu0 fun j h1 h2=>?_;obtain ⟨x,hx,rx⟩:=ju r (show its[j]?=some its.toArray[j] by simp);obtain ⟨y,hy,ry⟩:=ju r2 (show its2[j]?=some its2.toArray[j] by simp);exact ih.1 A.in1 x y (e j) _ _ (he j x y hx hy) rx ry hu1
  | lt ha hb =>
   obtain ⟨its,r,pl,hz⟩:=I.list ha;obtain ⟨its2,r2,pl2,hz2⟩:=I.tuple hb;exact SeqAt.RcNeAt.list_tuple pl.isList pl2 hu0
  | tl ha hb =>
   obtain ⟨its,r,pl,hz⟩:=I.tuple ha;obtain ⟨its2,r2,pl2,hz2⟩:=I.list hb;exact SeqAt.RcNeAt.tuple_list pl pl2.isList hu0
theorem qeN {A:Around} {x y:V} {u v:Value} (rx:RelV x u) (ry:RelV y v) (fx:zM x=true) (fy:zM y=true):SeqAt.RcAt A s u v (eqV x y)/\SeqAt.RcNeAt A s u v (!eqV x y):=by
 cases x with
 | non =>
  cases rx
  cases y with
  | non=>cases ry;exact ⟨SeqAt.RcAt.none_none,SeqAt.RcNeAt.none_none⟩
  | bl b=>cases ry;exact ⟨SeqAt.RcAt.none_bool b,SeqAt.RcNeAt.none_bool b⟩
  | int b=>obtain ⟨t,rfl⟩:=ry;exact ⟨SeqAt.RcAt.none_int b t,SeqAt.RcNeAt.none_int b t⟩
  | str b=>obtain ⟨t,rfl⟩:=ry;exact ⟨SeqAt.RcAt.none_str b t,SeqAt.RcNeAt.none_str b t⟩
  | _=>cases fy
 | bl a =>
  cases rx
  cases y with
  | non=>cases ry;exact ⟨SeqAt.RcAt.bool_none a,SeqAt.RcNeAt.bool_none a⟩
  | bl b=>cases ry;exact ⟨SeqAt.RcAt.bool_bool a b,SeqAt.RcNeAt.bool_bool a b⟩
  | int b=>obtain ⟨t,rfl⟩:=ry;exact ⟨SeqAt.RcAt.bool_int a b t,SeqAt.RcNeAt.bool_int a b t⟩
  | str b=>obtain ⟨t,rfl⟩:=ry;exact ⟨SeqAt.RcAt.bool_str a b t,SeqAt.RcNeAt.bool_str a b t⟩
  | _=>cases fy
 | int a =>
  obtain ⟨t',rfl⟩:=rx
  cases y with
  | non=>cases ry;exact ⟨SeqAt.RcAt.int_none a t',SeqAt.RcNeAt.int_none a t'⟩
  | bl b=>cases ry;exact ⟨SeqAt.RcAt.int_bool a t' b,SeqAt.RcNeAt.int_bool a t' b⟩
  | int b=>obtain ⟨t,rfl⟩:=ry;exact ⟨SeqAt.RcAt.int_int a t' b t,SeqAt.RcNeAt.int_int a t' b t⟩
  | str b=>obtain ⟨t,rfl⟩:=ry;exact ⟨SeqAt.RcAt.int_str a t' b t,SeqAt.RcNeAt.int_str a t' b t⟩
  | _=>cases fy
 | str a =>
  obtain ⟨t',rfl⟩:=rx
  cases y with
  | non=>cases ry;exact ⟨SeqAt.RcAt.str_none a t',SeqAt.RcNeAt.str_none a t'⟩
  | bl b=>cases ry;exact ⟨SeqAt.RcAt.str_bool a t' b,SeqAt.RcNeAt.str_bool a t' b⟩
  | int b=>obtain ⟨t,rfl⟩:=ry;exact ⟨SeqAt.RcAt.str_int a t' b t,SeqAt.RcNeAt.str_int a t' b t⟩
  | str b=>obtain ⟨t,rfl⟩:=ry;exact ⟨SeqAt.RcAt.str_str a t' b t,SeqAt.RcNeAt.str_str a t' b t⟩
  | _=>cases fy
 | _=>cases fx
end
noncomputable def qe7 (K:yg) (neg:Bool):R2:=fun x y H Q=>(zM x=true/\zM y=true/\Q (.bl (if neg then !eqV x y else eqV x y)) H) \/
 (∃ a b k n,x=.ref a/\y=.ref b/\n<=60/\EqT K H n a b k/\Q (.bl (if neg then !k else k)) H) \/
 (∃ a kvs,x=.ref a/\y=.ref a/\H a=some (.dK kvs)/\Q (.bl (!neg)) H)
theorem qbw {κ:Type} [DecidableEq κ]:∀ {kb:List (κ×Value)} {k:κ} {v:Value},(kb.map (·.1)).Nodup->(k,v)∈kb->valueAt kb k=some v
 | [],_,_,_,h=>by cases h
 | (k',v')::r,k,v,hn,h=>by
  obtain ⟨h1,h2⟩:=yo.mp (show (k'::r.map (·.1)).Nodup from hn);unfold valueAt;rw [xy];by_cases e:k'=k
  ·subst e;simp only [decide_true];rcases yB.mp h with z | z
   ·cases z;rfl
   ·exact absurd (yQ.mpr ⟨(k',v),z,rfl⟩) h1
  ·simp only [e,kR];rcases yB.mp h with z | z
   ·cases z;exact absurd rfl e
   ·exact qbw h2 z
theorem qc5 {A:Around} {s:Shared} {κ:Type} [DecidableEq κ] (kb:List (κ×Value)) (hn:(kb.map (·.1)).Nodup):∀ ka:List (κ×Value),(∀ p∈ka,p∈kb)->PySem.W.KeqHits A s kb ka true
 | [],_=>.nil
 | (k,v)::r,h=>by
  have hv:valueAt kb k=some v:=qbw hn (h (k,v) yZ);exact .hit (e:=true) (b:=true) hv (XX v) (qc5 kb hn r fun p hp=>h p (yJ _ hp))
section
variable {X:Cx} {K:yg}
theorem k_eqU (hK:X.K=K) (hu:X.A.units + 100 < cLine):OpR X (compareOp .Eq) (qe7 K false):=by
 subst hK;intro pins s σ H x y u v Q I rx ry h;rcases h with ⟨fx,fy,q⟩ | ⟨a,b,k,n,rfl,rfl,hn,e,q⟩ | ⟨a,kvs,rfl,rfl,ea,q⟩
 ·exact (qeN rx ry fx fy).1 _ _ _ _ ⟨.bl _,H,I,rfl,q⟩
 ·cases rx;cases ry;exact (qc4 I n).2 X.A a b k e (by omega) _ _ _ _ ⟨.bl _,H,I,rfl,q⟩
 ·cases rx;cases ry;obtain ⟨_,hs,vs,r,d⟩:=(show ObjOk X.prog X.w H s.heap a (.dK kvs) from I.hok a _ ea);obtain ⟨_,_,_,_,_,_,_,_,nd⟩:=id d;refine PySem.W.keq_eq hs hs d d (by omega) (fun _=>qc5 vs nd vs fun _ h=>h) ?_;rw [xP];exact ⟨.bl true,H,I,rfl,q⟩
theorem qa4 (hK:X.K=K) (hu:X.A.units + 100 < cLine):OpR X (compareOp .NotEq) (qe7 K true):=by
 subst hK;intro pins s σ H x y u v Q I rx ry h;rcases h with ⟨fx,fy,q⟩ | ⟨a,b,k,n,rfl,rfl,hn,e,q⟩ | ⟨a,kvs,rfl,rfl,ea,q⟩
 ·exact (qeN rx ry fx fy).2 _ _ _ _ ⟨.bl _,H,I,rfl,q⟩
 ·cases rx;cases ry;exact ne_refs I e (by omega) _ _ _ _ ⟨.bl _,H,I,rfl,q⟩
 ·cases rx;cases ry;obtain ⟨_,hs,vs,r,d⟩:=(show ObjOk X.prog X.w H s.heap a (.dK kvs) from I.hok a _ ea);obtain ⟨_,_,_,_,_,_,_,_,nd⟩:=id d;refine PySem.W.keq_ne hs hs d d (by omega) (fun _=>qc5 vs nd vs fun _ h=>h) ?_;rw [xP];exact ⟨.bl false,H,I,rfl,q⟩
end
section
variable {X:Cx} {K:yg}
noncomputable def qfN (K:yg):R2:=fun x y H Q=>rIx K x y H Q\/∃ a v,x=.ref a/\DGet H a y (some v)/\Q v H
theorem qt (hK:X.K=K) (hu:X.A.units + 100 < cLine):IxR X (qfN K):=by
 subst hK;refine IxR.or ix_seq ?_;intro value slice pins s σ H x y v u Q I rx ry h hs;obtain ⟨a,z,rfl,g,q⟩:=h;cases rx;exact tail_any (dict_typeIs I g) PySem.F.slot_dict_getitem.lookup (d_getItem (by omega) I g ry fun w' s3 I3 rw'=>⟨z,H,I3,rw',q⟩) hs
noncomputable def rSetU:qfo:=fun o i v H Q=>rSetL o i v H Q\/∃ a H',o=.ref a/\DPut H a i v H'/\Q H'
theorem jL (hu:X.A.units + 100 < cLine):qfR X rSetU:=by
 intro pins s σ H o i v ov iv u Q I ro ri rv h;rcases h with h | ⟨a,H',rfl,g,q⟩
 ·exact set_list pins s σ H o i v ov iv u Q I ro ri rv h
 ·cases ro;exact d_setItem (by omega) I g ri rv fun s' I'=>⟨H',I',q⟩
noncomputable def qev (K:yg) (neg:Bool):R2:=fun x y H Q=>rIn K neg x y H Q\/(∃ a o,y=.ref a/\DGet H a x o/\Q (.bl (if neg then !o.isSome else o.isSome)) H) \/
 (∃ p xs e n,y=.ref p/\SqL K H p xs/\n<=60/\(∀ z∈xs,EqD K H n z x (e z))/\Q (.bl (if neg then !xs.any e else xs.any e)) H)
theorem qeO {pins:List (Addr×Obj)} {σ:St} {H:Hp} {s:Shared} {xs:List V} {its:List Value} {x:V} {u:Value} {e:V->Bool} {n:Nat} {A:Around} (I:Inv X pins σ H s) (r:Vals xs its) (rx:RelV x u) (hu:A.units + n < cLine) (he:∀ z∈xs,EqD X.K H n z x (e z)) :
  ∃ e':Value->Bool,(∀ w,w∈its.toArray->SeqAt.EqAt A s w u (e' w))/\its.toArray.any e'=xs.any e:=by
 classical
 refine ⟨fun w=>decide (∃ z∈xs,RelV z w/\e z=true),fun w hw=>?_,?_⟩
 ·have hw':w∈its:=by simpa using hw
  obtain ⟨j,hj⟩:=Xb.mp hw';obtain ⟨z,hz,rz⟩:=ju r hj;have hm:=ye hz
  have eq:decide (∃ z∈xs,RelV z w/\e z=true)=e z:=by
   cases q:e z with
   | true=>exact yG ⟨z,hm,rz,q⟩
   | false =>
    refine yl fun ⟨z',_,rz',q'⟩=>?_;rw [RelV.inj rz' rz,q] at q';cases q'
  show SeqAt.EqAt A s w u (decide (∃ z∈xs,RelV z w/\e z=true));rw [eq];exact (qc4 I n).1 A z x (e z) w u (he z hm) rz rx hu
 ·rw [Yq,YX];constructor
  ·intro h;have h':its.any (fun w=>decide (∃ z∈xs,RelV z w/\e z=true))=true:=by simpa using h
   obtain ⟨w,_,q⟩:=YX.mp h';obtain ⟨z,hz,_,ez⟩:=yk q;exact ⟨z,hz,ez⟩
  ·rintro ⟨z,hz,ez⟩;obtain ⟨j,hj⟩:=Xb.mp hz;obtain ⟨w,hw,rz⟩:=r.get hj;have:its.any (fun w=>decide (∃ z∈xs,RelV z w/\e z=true))=true:=YX.mpr ⟨w,ye hw,yG ⟨z,hz,rz,ez⟩⟩;simpa using this
theorem zS (hK:X.K=K) (hu:X.A.units + 100 < cLine):OpR X (compareOp .In) (qev K false):=by
 subst hK;intro pins s σ H x y u v Q I rx ry h;rcases h with h | ⟨a,o,rfl,g,q⟩ | ⟨p,xs,e,n,rfl,hl,hn,he,q⟩
 ·exact op_in_seq pins s σ H x y u v Q I rx ry h
 ·cases ry;exact d_in (by omega) I g rx fun s' I'=>⟨.bl _,H,I',rfl,q⟩
 ·cases ry;obtain ⟨its,r,pl,hz⟩:=I.list hl;obtain ⟨e',h1,h2⟩:=qeO (A:=X.A.in1) I r rx (by show X.A.units + 1 + n < cLine;omega) he;exact SeqAt.in_listAt e' pl.isList h1 (by rw [h2];exact ⟨.bl _,H,I,rfl,q⟩)
theorem zg (hK:X.K=K) (hu:X.A.units + 100 < cLine):OpR X (compareOp .NotIn) (qev K true):=by
 subst hK;intro pins s σ H x y u v Q I rx ry h;rcases h with h | ⟨a,o,rfl,g,q⟩ | ⟨p,xs,e,n,rfl,hl,hn,he,q⟩
 ·exact op_notIn_seq pins s σ H x y u v Q I rx ry h
 ·cases ry;exact d_notIn (by omega) I g rx fun s' I'=>⟨.bl _,H,I',rfl,q⟩
 ·cases ry;obtain ⟨its,r,pl,hz⟩:=I.list hl;obtain ⟨e',h1,h2⟩:=qeO (A:=X.A.in1) I r rx (by show X.A.units + 1 + n < cLine;omega) he;exact SeqAt.notIn_listAt e' pl.isList h1 (by rw [h2];exact ⟨.bl _,H,I,rfl,q⟩)
noncomputable def rListU (K:yg):List V->Hp->VK->Prop:=fun xs H Q=>(∃ p ys,xs=[.ref p]/\(SqL K H p ys\/SqT K H p ys)/\∀ l,H l=none->Q (.ref l) (upd H l (.lst ys))) \/
 (∃ p kvs,xs=[.ref p]/\H p=some (.dK kvs)/\∀ l,H l=none->Q (.ref l) (upd H l (.lst (kvs.map fun kv=>kV kv.1)))) \/
 (∃ x,xs=[.str x]/\x.length<=1000/\∀ l,H l=none->Q (.ref l) (upd H l (.lst (x.cps.toList.map fun c=>.str ⟨#[c]⟩))))
theorem qbU {α β:Type} {F:α->β->Prop}:∀ {l:List α} {m:List β} {j:Nat} {a:α},Paired F l m->l[j]?=some a->∃ b,m[j]?=some b/\F a b
 | _,_,_,_,.nil,e=>by simp at e
 | _,_,0,_,.cons r _,e=>by simp at e;subst e;exact ⟨_,rfl,r⟩
 | _,_,j + 1,a,.cons _ t,e=>by
  obtain ⟨b,h1,h2⟩:=qbU (j:=j) (a:=a) t (by simpa using e);exact ⟨b,by simpa using h1,h2⟩
theorem qaf:∀ {ys:List V} {us:List Value},ys.length=us.length->(∀ (j:Nat) y u,ys[j]?=some y->us[j]?=some u->RelV y u)->Vals ys us
 | [],[],_,_=>.nil
 | [],_::_,h,_=>by cases h
 | _::_,[],h,_=>by cases h
 | y::ys,u::us,h,q=>.cons (q 0 y u rfl rfl) (qaf (Nat.succ.inj h) fun j y' u' h1 h2=>q (j + 1) y' u' (by simpa using h1) (by simpa using h2))
theorem qbx (hK:X.K=K) (hc:X.calm=true):zL X (.type "list") (rListU K):=by
 subst hK;intro pins s σ H xs us Q I r h;rcases h with h | ⟨p,kvs,rfl,ea,q⟩ | ⟨x,rfl,hx,q⟩
 ·exact call_list_of pins s σ H xs us Q I r h
 ·obtain ⟨u,rfl,ru⟩:=qbZ r;cases ru;obtain ⟨hz,hs,vs,rv,d⟩:=(show ObjOk X.prog X.w H s.heap p (.dK kvs) from I.hok p _ ea);obtain ⟨ep,hat⟩:=d.dictAt;have hl:kvs.length=vs.length:=rv.length;refine PySem.W.kdl_call (PySem.W.kdl_dict (knd:=jr X.prog X.w) (kvs:=vs) (ep:=ep) hs) (I.ok.hd hc) hat (by rw [<- hl];exact hz) fun h' tk acc' c' kp e it=>?_;obtain ⟨i1,i2⟩:=it
  have hv:Vals (kvs.map fun kv=>kV kv.1) acc'.toList:=by
   refine qaf (by rw [ya,hl,<- i1];simp) fun j y u h1 h2=>?_;obtain ⟨k,x,h3,h4⟩:=i2 j u (by simpa using h2);rw [yd] at h1
   cases q1:kvs[j]? with
   | none=>rw [q1] at h1;cases h1
   | some kv =>
    rw [q1] at h1;cases h1;obtain ⟨q2,h5,h6,h7⟩:=qbU rv q1;rw [h3] at h5;cases h5;have e1:kv.1=k:=h6;show RelV (kV kv.1) u;rw [e1];rcases qY (show qcS k u=true from h4) with ⟨i,t,rfl,rfl⟩ | ⟨z,t,rfl,rfl⟩
    ·exact ⟨t,rfl⟩
    ·exact ⟨t,rfl⟩
  refine ⟨.ref s.heap.objs.size,_,I.laid (t':=tk) kp (yh _) (show ObjOk X.prog X.w _ h' _ (.lst (kvs.map fun kv=>kV kv.1)) from ⟨by rw [ya];exact hz,acc'.toList,c',hv,by simpa using e⟩),rfl,q _ (I.hok.fresh (yh _))⟩
 ·obtain ⟨u,rfl,t,rfl⟩:=qbZ r;have hsz:x.cps.size<=sizeLine:=yX (qi hx);refine call_list_str (I.ok.hd hc) x t (fun h' tk acc' c' kp e it=>?_) hsz;obtain ⟨i1,i2⟩:=it
  have hv:Vals (x.cps.toList.map fun c=>V.str ⟨#[c]⟩) acc'.toList:=by
   refine qaf (by rw [ya];simp [i1]) fun j y u h1 h2=>?_;obtain ⟨c,t',h3,rfl⟩:=i2 j u (by simpa using h2);rw [yd] at h1;have h3':x.cps.toList[j]?=some c:=by simpa using h3
   rw [h3'] at h1;cases h1;exact ⟨t',rfl⟩
  refine ⟨.ref s.heap.objs.size,_,I.laid (t':=tk) kp (yh _) (show ObjOk X.prog X.w _ h' _ (.lst (x.cps.toList.map fun c=>V.str ⟨#[c]⟩)) from ⟨by rw [ya];simpa using hsz,acc'.toList,c',hv,by simpa using e⟩),rfl,q _ (I.hok.fresh (yh _))⟩
end
structure CMethOk (P:Program) (w:World) (K:yg) (mg:Str->Option Value) (base:Heap) (CX:CXT) (k:Nat) (C:Addr) (x m:Str) (ps:List Str) (sp:Sp):Prop where
 ex:∃ f fd,FnOk P w K mg base CX k f fd ps sp/\CMeth K C m f/\Binds K fd ps []
 mg_:mg x=some (.ref C)
section
variable {X:Cx} {k:Nat} {C:Addr} {ps:List Str} {sp:Sp} {x m:Str} {p pos apos:Pos} {e:Expr} {es:List Expr} {t:TA}
theorem qaE (D:MakeOk X.prog X.w X.K X.mg X.base CX0 k C x ps sp) (hr:Room (k + 1) X.A) (ha:PA X (e::es) t) (hg:Gl X x:=by rfl) (hdb:(x==("__debug__":Str))=false:=by decide)
  (he:starEach (e::es) X.env=(false,eval e X.env)::starEach es X.env:=by rfl) (hpl:(backTo pos (starEach es X.env)).any (·.1)=false:=by rfl):PE X (.Call (.Name x p) (e::es) [] pos) (qe3 C sp [] E0 t):=by
 obtain ⟨f,fd,F,M,hb⟩:=D.ex;exact pe_make M F hr hg D.mg_ hb .nil qw ha hdb he hpl
end
theorem own_eq_same {prog:Program} {w:World} {A:Around} {E:Value->Shared->Prop} {s:Shared} {K:yg} {x C:Addr} {ox:Obj} {od:Option Obj} {Q:Value->Shared->Prop} (hu:A.units < cLine) (X:K.In s.heap) (I:PySem.W.InstAt s.heap x ox C od)
  (hs:PySem.W.findIn K (.ref C) "__eq__"=some (some (.builtin "object.__eq__"))) (ho:PySem.W.mroIn K C (.type "object")=some true) (h:Q (.bool true) s):wpAny (model prog w) A (richCompare .Eq (.ref x) (.ref x)) Q E s:=by
 have call1:∀ {A':Around} {Q':Value->Shared->Prop},Q' (.bool true) s->wpAny (model prog w) A' (call (.builtin "object.__eq__") [.ref x,.ref x]) Q' E s:=fun {A' Q'} q=>by
  refine ke (Xh PySem.F.slot_object_eq.plain PySem.F.entry_object_eq (@PySem.W.check_slot (model prog w) _ _ s "object.__eq__" "object" "__eq__" (.ref x) [.ref x] [] _ (by decide +kernel) (by decide +kernel) (I.type.andThen (xJ X ho)) (PySem.F.args_object_eq_2 _ _) ?_));refine yr (yx (yr (wpAny_isSame_ref_self ?_)));exact yx q
 have one:wpAny (model prog w) A (tryCompare (.ref x) "__eq__" (.ref x)) (fun r s'=>∃ v,r=some v/\Q v s') E s:=by
  unfold tryCompare;refine yr ?_;simp only [callSpecialIfBound?,bindSpecialIfBound?];refine Ys (yr (yr (yr (I.type.here ((Y4 X hs).here ?_)))));refine yr (kA (wpAny_ite ?_));have b:=PySem.F.slot_object_eq.bind (.ref x)
  have fin:wpAny (model prog w) A (call (.builtin "object.__eq__") ([.ref x]++[.ref x])>>=fun v=>pure (some v)) (fun r s'=>wpAny (model prog w) A (match r with | some .notImplemented | none=>pure none | some v=>pure (some v)) (fun r s'=>∃ v,r=some v/\Q v s') E s') E s:=
   yr (call1 (yx (yx ⟨_,rfl,h⟩)))
  split
  ·exact yr (YS b (yx fin))
  ·exact wpAny_tryCatch (yr (YS b (yx fin)))
 unfold richCompare;simp only [oneThing_ref];refine Ys (yr (wpAny_cRoomFor hu ?_));refine yr (I.type.here (yr (I.type.here ?_)));rw [yC (by simp)];refine yr (yx ?_);simp only [xW,XU];refine yr (YV one (fun r s' z=>?_) fun _ _ e=>e);obtain ⟨v,rfl,hq⟩:=z;exact yx hq
structure OEq (K:yg) (C:Addr):Prop where
 eq:PySem.W.findIn K (.ref C) "__eq__"=some (some (.builtin "object.__eq__"))
 ob:PySem.W.mroIn K C (.type "object")=some true
noncomputable def qgh (K:yg):R2:=fun x y H Q=>qe7 K false x y H Q\/∃ a C dx fs,x=.ref a/\y=.ref a/\H a=some (.ins C dx fs)/\OEq K C/\Q (.bl true) H
theorem k_eqW {X:Cx} {K:yg} (hK:X.K=K) (hu:X.A.units + 100 < cLine):OpR X (compareOp .Eq) (qgh K):=by
 subst hK;intro pins s σ H x y u v Q I rx ry h;rcases h with h | ⟨a,C,dx,fs,rfl,rfl,ea,oe,q⟩
 ·exact k_eqU rfl hu pins s σ H x y u v Q I rx ry h
 ·cases rx;cases ry;obtain ⟨mA,O,_⟩:=qaU I.hok ea;obtain ⟨od,J,_⟩:=O.look;exact own_eq_same (by omega) I.kIn J oe.eq oe.ob ⟨.bl true,H,I,rfl,q⟩
theorem qI {X:Cx}:MtR X "list.append" rAppend:=mt_append
theorem qag {X:Cx}:MtR X "list.extend" rExtend:=mt_extend
theorem mtR_pop {X:Cx}:MtR X "list.pop" rPop:=mt_pop
theorem qcB {X:Cx}:MtR X "list.pop" rPopAt:=mt_popAt
section
variable {D:Ends} {σ:St} {H:Hp} {Q:VK} {t u:TS} {te ta tb tc:TE} {tas:TA} {K:yg} {sp:Sp} {E:XK} {EK:St->XK} {C:Addr} {f m:Str}
theorem vFldU (h:ta σ H fun x H1=>(∃ a C dx fs v,x=.ref a/\H1 a=some (.ins C dx fs)/\Cls K C/\NoAttr K C f/\fs.lookup f=some v/\Q v H1) \/
 (∃ a C dx fs v,x=.ref a/\IsX H1 a C (some dx)/\XAt K C/\NoAttr K C f/\H1 dx=some (.xd fs)/\fs.lookup f=some v/\Q v H1)):qfy K ta f σ H Q:=h
theorem vSFldU (h:te σ H fun y H1=>ta σ H1 fun x H2=>(∃ a C dx fs,x=.ref a/\H2 a=some (.ins C dx fs)/\Cls K C/\NoAttr K C f/\fs.length < 1000/\D.nx σ (upd H2 a (.ins C dx (qG f y fs)))) \/
 (∃ a C,x=.ref a/\H2 a=some (XN a C none)/\XAt K C/\NoAttr K C f/\∀ dx,H2 dx=none->D.nx σ (upd (upd H2 dx (.xd [(f,y)])) a (XN a C (some dx))))):qfz K ta te f D σ H:=h
theorem vXMake (h:tas σ H fun vs H1=>vs.length<=1000/\∀ x,H1 x=none->sp (.ref x::vs) (upd H1 x (XN x C none)) (fun v H2=>v=.non/\Q (.ref x) H2) E):tXMake C sp E tas σ H Q:=h
theorem vMake (h:tas σ H fun vs H1=>∀ x dx,H1 x=none->H1 dx=none->dx≠x->sp (.ref x::(vs++[])) (upd (upd H1 dx (.own x)) x (.ins C dx [])) (fun v H2=>v=.non/\Q (.ref x) H2) E):qe3 C sp [] E tas σ H Q:=h
theorem vMeth (h:ta σ H fun x H1=>∃ a dx fs,x=.ref a/\H1 a=some (.ins C dx fs)/\fs.lookup m=none/\tas σ H1 fun vs H2=>sp (x::(vs++[])) H2 Q E):qdW C m sp [] E ta tas σ H Q:=h
theorem vVinit (h:tas σ H fun vs H1=>∃ a C y,vs=[.ref a,y]/\H1 a=some (XN a C none)/\XAt K C/\Q .non H1):tVinit K tas σ H Q:=h
theorem vCallS (h:tas σ H fun vs H1=>sp vs H1 Q (EK σ)):tCallS sp EK tas σ H Q:=h
theorem vMethS (h:ta σ H fun x H1=>∃ a dx fs,x=.ref a/\H1 a=some (.ins C dx fs)/\fs.lookup m=none/\tas σ H1 fun vs H2=>sp (x::vs) H2 Q (EK σ)):tMethS C m sp EK ta tas σ H Q:=h
theorem vMakeS (h:tas σ H fun vs H1=>∀ x dx,H1 x=none->H1 dx=none->dx≠x->sp (.ref x::vs) (upd (upd H1 dx (.own x)) x (.ins C dx [])) (fun v H2=>v=.non/\Q (.ref x) H2) (EK σ)):tMakeS C sp EK tas σ H Q:=h
theorem vRaise (h:te σ H fun x H1=>∃ a C dx,x=.ref a/\H1 a=some (XN a C dx)/\XAt K C/\EK σ (.ref C) dx (upd H1 a (XO a C dx))):tRaise K EK te D σ H:=h
theorem qdS {x y:V} {t cv:Value} {b:Bool} (ty:TyX K H x t) (hy:qbu y=some cv) (hb:PySem.W.kitOne K t cv=some b) (h:Q (.bl b) H):rIsiU K [x,y] H Q:=⟨x,y,t,cv,b,rfl,ty,hy,hb,h⟩
end
section
variable {prog:Program} {w:World} {A:Around} {E:Value->Shared->Prop} {s:Shared}
theorem none_dict {a:Addr} {Q:Value->Shared->Prop} (hT:s.TypeIs (.ref a) "dict") (hu:A.units < cLine) (h:Q (.bool false) s):wpAny (model prog w) A (richCompare .Eq .none (.ref a)) Q E s:=by
 refine SeqAt.rc_eq_decline_or (k:=false) rfl hT (by decide) PySem.F.sub_dict_NoneType YL PySem.F.slot_dict_eq_refl
  (fun _ hq=>call_gives YL rfl PySem.F.entry_NoneType_eq (PySem.F.args_NoneType_eq_2 _ _) (SeqAt.NoneType___eq___none_ref_0 a) hq) (fun Q' hq=>?_) (fun _ hq=>YS (rfl:isSame .none (.ref a)=pure false) hq) (.inr hu) h
 refine XJ PySem.F.slot_dict_eq_refl hT PySem.F.entry_dict_eq ?_ (PySem.F.args_dict_eq_2 _ _);show wpAny _ _ (Builtin.Dict.dictSlotArgs "__eq__" ⟨[.ref a,.none],[]⟩>>=_) _ _ s;refine yr ?_;unfold Builtin.Dict.dictSlotArgs;refine yr (wpAny_notOrdered_dict hT ?_);show wpAny _ _ (pure (Value.ref a,Value.none)) _ _ s;refine yx ?_;refine yr (wpAny_isInstance (T:="NoneType") (b:=false) rfl PySem.F.sub_NoneType_dict ?_);simp only [Bool.not_false,Xz];exact yr (wpAny_rule (yx ⟨_,rfl,hq⟩))
theorem none_own {K:yg} {x C:Addr} {ox:Obj} {od:Option Obj} {Q:Value->Shared->Prop} (hu:A.units < cLine) (X:K.In s.heap) (I:PySem.W.InstAt s.heap x ox C od) (oe:OEq K C) (hn:PySem.W.mroIn K C (.type "NoneType")=some false)
  (h:Q (.bool false) s):wpAny (model prog w) A (richCompare .Eq .none (.ref x)) Q E s:=by
 have t1:wpAny (model prog w) A (tryCompare .none "__eq__" (.ref x)) (fun r s'=>r=none/\s'=s) E s:=by
  unfold tryCompare;refine yr ?_;simp only [callSpecialIfBound?,bindSpecialIfBound?];refine Ys (yr (yr ?_));refine yr (YS (rfl:typeOf .none=pure (.type "NoneType")) ?_);refine YS YL.lookup ?_;refine yr (kA (wpAny_ite ?_))
  have fin:wpAny (model prog w) A (call (.builtin "NoneType.__eq__") ([.none]++[.ref x])>>=fun v=>pure (some v)) (fun r s'=>wpAny (model prog w) A (match r with | some .notImplemented | none=>pure none | some v=>pure (some v)) (fun r s'=>r=none/\s'=s) E s') E s:=
   yr (call_gives YL rfl PySem.F.entry_NoneType_eq (PySem.F.args_NoneType_eq_2 _ _) (SeqAt.NoneType___eq___none_ref_0 x) (yx (yx ⟨rfl,rfl⟩)))
  split
  ·exact yr (YS (YL.bind .none) (yx fin))
  ·exact wpAny_tryCatch (yr (YS (YL.bind .none) (yx fin)))
 have t2:wpAny (model prog w) A (tryCompare (.ref x) "__eq__" .none) (fun r s'=>r=none/\s'=s) E s:=by
  unfold tryCompare;refine yr ?_;simp only [callSpecialIfBound?,bindSpecialIfBound?];refine Ys (yr (yr (yr (I.type.here ((Y4 X oe.eq).here ?_)))));refine yr (kA (wpAny_ite ?_));have b:=PySem.F.slot_object_eq.bind (.ref x)
  have c:∀ {Q':Value->Shared->Prop},Q' .notImplemented s->wpAny (model prog w) A (call (.builtin "object.__eq__") [.ref x,.none]) Q' E s:=fun {Q'} q=>by
   refine ke (Xh PySem.F.slot_object_eq.plain PySem.F.entry_object_eq (@PySem.W.check_slot (model prog w) _ _ s "object.__eq__" "object" "__eq__" (.ref x) [.none] [] _ (by decide +kernel) (by decide +kernel) (I.type.andThen (xJ X oe.ob)) (PySem.F.args_object_eq_2 _ _) ?_));refine yr (yx (yr (YS (rfl:isSame (.ref x) .none=pure false) ?_)));exact yx q
  have fin:wpAny (model prog w) A (call (.builtin "object.__eq__") ([.ref x]++[.none])>>=fun v=>pure (some v)) (fun r s'=>wpAny (model prog w) A (match r with | some .notImplemented | none=>pure none | some v=>pure (some v)) (fun r s'=>r=none/\s'=s) E s') E s:=
   yr (c (yx (yx ⟨rfl,rfl⟩)))
  split
  ·exact yr (YS b (yx fin))
  ·exact wpAny_tryCatch (yr (YS b (yx fin)))
 unfold richCompare;refine Ys (yr (wpAny_cRoomFor hu ?_));show wpAny _ _ (typeOf .none>>=_) _ _ _;refine yr (YS (rfl:typeOf .none=pure (.type "NoneType")) (yr (I.type.here ?_)));rw [yF (by rfl)];refine yr ((xJ X hn).here ?_);simp only [xW,XU];refine yr (YV t1 (fun r s' z=>?_) fun _ _ e=>e);obtain ⟨rfl,rfl⟩:=z;simp only [Bool.not_false,Xz];refine yr (YV t2 (fun r s' z=>?_) fun _ _ e=>e);obtain ⟨rfl,rfl⟩:=z;refine yr (wpAny_rule (yr (YS (rfl:isSame .none (.ref x)=pure false) (yx h))))
end
inductive rNoneRef (K:yg) (x:V) (y:V) (H:Hp) (Q:VK):Prop|mk (a:_) (_:x=.non) (_:y=.ref a) (_:((∃ xs,SqL K H a xs\/SqT K H a xs)\/(∃ kvs,H a=some (.dK kvs))\/∃ C dx fs,H a=some (.ins C dx fs)/\OEq K C/\PySem.W.mroIn K C (.type "NoneType")=some false)) (_:Q (.bl false) H)
noncomputable def qfO (K:yg):R2:=fun x y H Q=>qgh K x y H Q\/rNoneRef K x y H Q
theorem zO {X:Cx} {K:yg} (hK:X.K=K) (hu:X.A.units + 100 < cLine):OpR X (compareOp .Eq) (qfO K):=by
 intro pins s σ H x y u v Q I rx ry h;rcases h with h | ⟨a,rfl,rfl,h,q⟩
 ·exact k_eqW hK hu pins s σ H x y u v Q I rx ry h
 ·subst hK;cases rx;cases ry;have fin:EP X pins σ Q (.bool false) s:=⟨.bl false,H,I,rfl,q⟩;rcases h with ⟨xs,hl | hl⟩ | ⟨kvs,ea⟩ | ⟨C,dx,fs,ea,oe,hn⟩
  ·obtain ⟨its,r,pl,_⟩:=I.list hl;exact SeqAt.RcAt.none_list pl.isList (by omega) _ _ _ _ fin
  ·obtain ⟨its,r,pl,_⟩:=I.tuple hl;exact SeqAt.RcAt.none_tuple pl (by omega) _ _ _ _ fin
  ·obtain ⟨_,_,vs,_,d⟩:=(show ObjOk X.prog X.w H s.heap a (.dK kvs) from I.hok a _ ea);exact none_dict d.typeIs (by omega) fin
  ·obtain ⟨mA,O,_⟩:=qaU I.hok ea;obtain ⟨od,J,_⟩:=O.look;exact none_own (by omega) I.kIn J oe hn fin
noncomputable def XL (K:yg) (C:Addr) (bm:List Value):Prop:=∃ nm qn N bs hdct sn sub ab col dd k0 k1 k2 k3 k5,K.lookup C=some (excClassObj nm qn C N bs bm hdct sn sub ab col dd k0 k1 k2 k3 k5 "ValueError.__new__")
section
variable {K:yg} {C D:Addr} {bm bn:List Value}
end
end L2
namespace HT
open PySem PySem.Spec PyProof.Rows
section
variable {prog:Program} {w:World} {A:Around} {E:Value->Shared->Prop} {s:Shared}
end
end HT
namespace L2
open PySem PySem.Spec PyProof.Rows
variable {H:Hp} {X:Cx} {es:List Expr} {pos:Pos} {σ:St}
noncomputable def tRev (K:yg) (te:TE) (ts:TO):TE:=fun σ H Q=>te σ H fun x H1=>ts σ H1 fun o H2=>o=some (-1)/\∃ a y z,x=.ref a/\SqT K H2 a [y,z]/\∀ p,H2 p=none->Q (.ref p) (upd H2 p (.tup [z,y]))
theorem vRev {K:yg} {te:TE} {ts:TO} {Q:VK} (h:te σ H fun x H1=>ts σ H1 fun o H2=>o=some (-1)/\∃ a y z,x=.ref a/\SqT K H2 a [y,z]/\∀ p,H2 p=none->Q (.ref p) (upd H2 p (.tup [z,y]))):tRev K te ts σ H Q:=h
section
variable {X:Cx} {K:yg} {e st:Expr} {te:TE} {ts:TO} {p2 pos:Pos}
end
theorem Inv.turnedL {pins:List (Addr×Obj)} {s:Shared} {h':Heap} {t':Nat} {fp:List Addr} (I:Inv X pins σ H s) (k:∀ b o,b∉fp->s.heap.get? b=some o->h'.get? b=some o) (hf:∀ b∈fp,qcQ X pins H b):Inv X pins σ H { s with heap:=h',toks:=t' }:=by
 have nit:∀ b u,H b=some u->b∉fp:=fun b u e z=>by rw [(hf b z).1] at e;cases e
 have hL:X.env.locals∉fp:=fun z=>(hf _ z).2.1 rfl;refine I.step (g':=s.gens) (d':=s.drawn) (ch:=fp) (fun b hb=>?_) (fun b o _ _ hc e _=>k b o hc e) (fun b o _ _ hc e _=>⟨o.slots,k b o hc e⟩) (fun _ _ _ _ n=>n)
  (fun b o hc e=>⟨o,k b o hc e⟩) (fun _ _ e=>e) (fun _ _ _ e=>e) (fun b ps e=>⟨#[],by rw [e];simp⟩) (fun m hm=>?_) (fun b u e=>?_) I.bare
 ·obtain ⟨f0,f1,f2,f3,f4,f5⟩:=hf b hb;exact ⟨f3,f1,f4,f5⟩
 ·obtain ⟨o,es,ep,ho,r⟩:=hm;exact ⟨o,es,ep,k _ o hL ho,r⟩
 ·refine (I.hok b u e).stay (fun c v hc q=>k c v ?_ q) (fun _ q=>q) fun _ _ q=>q;rcases hc with z | z
  ·rw [z];exact nit b u e
  ·exact nit c _ z
noncomputable def Ite (K:yg) (a:Addr):It:=
 ⟨fun i H=>∃ xs x,SqL K H a xs/\xs[i]?=some x,fun i H x H'=>∃ t y,x=.ref t/\H t=none/\H'=upd H t (.tup [.int i,y])/\∀ xs,SqL K H a xs->xs[i]?=some y,fun i H=>∃ xs,SqL K H a xs/\xs.length<=i⟩
theorem qcC {h:Heap} {o v:Obj} {b:Addr} (e:(h.push o).get? b=some v) (ne:b≠h.objs.size):h.get? b=some v:=(Heap.get?_push_cases e).elim (fun z=>absurd z.1 ne) fun z=>z
theorem turn_enum {P:Program} {w:World} {K:yg} {x1} (a e it:Addr) (hei:e≠it):Turn P w K (.Tuple es x1 pos) (Ite K a) [e,it] e (fun i h=>(∃ old,IsEnum h e it i old)/\h.IsListIter it a i) where
 mem:=by simp
 obj:=fun i h st b hb=>by
  obtain ⟨⟨old,he⟩,o,e1,c,d⟩:=st;simp only [yB,yY,YB] at hb;rcases hb with rfl | rfl
  ·exact ⟨_,he,fun v z=>by
    have z':Data.fields _=Data.cell v:=z;cases z'⟩
  ·exact ⟨o,e1,fun v z=>by rw [d] at z;cases z⟩
 keep:=fun i h h' st k=>by
  obtain ⟨⟨old,he⟩,hit⟩:=st;exact ⟨⟨old,k e (by simp) _ he⟩,hit.at fun o x=>k it (by simp) o x⟩
 item:=by
  intro X hP hw hK hc i pins s σ H E I hf st hg;subst hP hw hK;obtain ⟨⟨old,he⟩,hit⟩:=st;obtain ⟨xs,x,hq,hx⟩:=hg;obtain ⟨its,rv,p,hz⟩:=I.list hq;obtain ⟨u,hu,ru⟩:=rv.get hx;refine wpAny_pyNext_enum_item he hit p.isList (x:=u) (by simpa using hu) hei fun h' ho hit' hT hsz hk=>?_;refine ⟨_,rfl,wpAny_letOwnedTupleGo_enum ho fun h2 he2 hs2=>?_⟩;have fre:H s.heap.objs.size=none:=I.hok.fresh (yh _);have ne1:s.heap.objs.size≠e:=Yh (yK he);have ne2:s.heap.objs.size≠it:=by obtain ⟨o,e1,_⟩:=hit;exact Yh (yK e1)
  have I1:Inv X pins σ (upd H s.heap.objs.size (.tup [.int i,x])) { s with heap:=s.heap.push { cls:=.type "tuple",data:=.seq #[.int i s.toks,u] },toks:=s.toks + 1 }:=
   I.laid (fun b u e=>yw _ e) (yh _) ⟨by show 2<=sizeLine;decide,[.int i s.toks,u],.cons ⟨_,rfl⟩ (.cons ru .nil),⟨_,yU _ rfl,rfl,_,rfl⟩⟩
  have hf1:∀ b∈[e,it],qcQ X pins (upd H s.heap.objs.size (.tup [.int i,x])) b:=fun b hb=>by
   obtain ⟨f0,f⟩:=hf b hb;refine ⟨?_,f⟩;rw [qf]
   ·exact f0
   ·simp only [yB,yY,YB] at hb;rcases hb with rfl | rfl
    ·exact ne1.symm
    ·exact ne2.symm
  have kk:∀ b o,b∉[e,it]->(s.heap.push { cls:=.type "tuple",data:=.seq #[.int i s.toks,u] }).get? b=some o->h2.get? b=some o:=fun b o hb z=>by
   simp only [yB,yY,YB,not_or] at hb;by_cases hz:b=s.heap.objs.size
   ·subst hz;rw [yU _ rfl] at z;cases z;exact (hs2.2 _ ne1).trans hT
   ·exact (hs2.2 b hb.1).trans (hk b o hb.1 hb.2 (qcC z hz))
  have I2:=I1.turnedL (h':=h2) (t':=s.toks + 1) (fp:=[e,it]) kk hf1;exact ⟨.ref s.heap.objs.size,_,I2,rfl,⟨_,x,rfl,fre,rfl,fun ys hy=>by rw [I.list_inj hy hq];exact hx⟩,⟨⟨_,by simpa using he2⟩,hit'.at fun o y=>(hs2.2 it hei.symm).trans y⟩,fun b hb=>(hf1 b hb).1⟩
 done:=by
  intro X hP hw hK hc i pins s σ H E I hf st hg;subst hP hw hK;obtain ⟨⟨old,he⟩,hit⟩:=st;obtain ⟨xs,hq,hx⟩:=hg;obtain ⟨its,rv,p,hz⟩:=I.list hq;have hl:=rv.length;exact wpAny_pyNext_enum_end (I.ok.hd hc) he hit p.isList (xl (by simp;omega)) fun h' eb=>⟨rfl,I.turnedL (t':=s.toks) (fp:=[e,it]) (fun b o hb z=>eb b o (fun z'=>hb (by simp [z'])) z) hf⟩
 self:=fun _ _ _ _ _ st h=>by
  obtain ⟨⟨old,he⟩,_⟩:=st;exact wpAny_pyIter_enum he h
theorem boot_enumerate:bootBuiltins "enumerate"=some (.type "enumerate"):=by decide +kernel
noncomputable def qfA (K:yg) (ta:TA):TI:=fun σ H R=>ta σ H fun vs H1=>∃ a xs,vs=[.ref a]/\SqL K H1 a xs/\R (Ite K a) H1
theorem pi_enum {K:yg} {a:Expr} {ta:TA} {x1} {tp p:Pos} (hK:X.K=K) (hg:Gl X "enumerate") (hm:X.mg "enumerate"=none) (ha:PA X [a] ta) (hs:starEach [a] X.env=[(false,eval a X.env)]:=by rfl):PI X (.Tuple es x1 tp) (.Call (.Name "enumerate" p) [a] [] pos) (qfA K ta):=by
 subst hK;intro pins s σ H R I h;refine Call_ (qaw I hg hm boot_enumerate (Yz (thn (ha pos pins s σ H _ I h) fun us s1 ⟨vs,H1,I1,r1,q1⟩=>?_) hs rfl));obtain ⟨a,xs,e,hq,q⟩:=q1;subst e
 cases r1 with
 | cons r rr =>
  cases rr;cases r;obtain ⟨its,rv,pl,hz⟩:=I1.list hq;refine call_enumerate_list pl.isList fun h' he hi hsz hk=>wpAny_pyIter_enum he ?_;refine ⟨_,[s1.heap.objs.size + 1,s1.heap.objs.size],_,_,H1,rfl,I1.kept (t':=s1.toks) hk,turn_enum a _ _ (Nat.succ_ne_self _),⟨⟨_,he⟩,hi⟩,fun b hb=>?_,q⟩;simp only [yB,yY,YB] at hb;rcases hb with rfl | rfl
  ·exact I1.fpOk (Xg _) (I1.hok.fresh (Xg _))
  ·exact I1.fpOk (yh _) (I1.hok.fresh (yh _))
theorem for_enum {K:yg} {a:Addr} {xs:List V} {g:TG} {tb:TS} {D:Ends} (Pv:Nat->St->Hp->Prop) (h0:Pv 0 σ H) (hl:∀ i σ H,i<=xs.length->Pv i σ H->SqL K H a xs)
  (hs:∀ i x t σ H,xs[i]?=some x->H t=none->Pv i σ H->g (.ref t) σ (upd H t (.tup [.int i,x])) fun σ2 H2=>tb { D with nx:=Pv (i + 1),ct:=Pv (i + 1),bk:=D.nx } σ2 H2) (hd:∀ σ H,Pv xs.length σ H->D.nx σ H) :
  ∃ W:Nat->Nat->St->Hp->Prop,(∃ m,W 0 m σ H)/\∀ i m σ H,W i m σ H ->
   ((Ite K a).stop i H/\D.nx σ H)\/((Ite K a).go i H/\∃ N:St->Hp->Prop,(∀ σ' H',N σ' H'->∃ m',m' < m/\W (i + 1) m' σ' H')/\∀ x H',(Ite K a).yld i H x H'->g x σ H' fun σ2 H2=>tb { D with nx:=N,ct:=N,bk:=D.nx } σ2 H2):=by
 refine ⟨fun i m σ H=>m=xs.length - i/\i<=xs.length/\Pv i σ H,⟨xs.length,by simp,YK _,h0⟩,?_⟩;rintro i m σ H ⟨rfl,hi,p⟩;have q:=hl i σ H hi p;by_cases hlt:i < xs.length
 ·refine .inr ⟨⟨xs,xs[i],q,by simp [hlt]⟩,Pv (i + 1),fun σ' H' p'=>⟨xs.length - (i + 1),by omega,rfl,hlt,p'⟩,fun x H' y=>?_⟩;obtain ⟨t,v,rfl,ht,rfl,y⟩:=y;exact hs i v t σ _ (y xs q) ht p
 ·have e:i=xs.length:=by omega
  subst e;exact .inl ⟨⟨xs,q,yh _⟩,hd σ H p⟩
theorem vEnum {K:yg} {tas:TA} {R:It->Hp->Prop} (h:tas σ H fun vs H1=>∃ a xs,vs=[.ref a]/\SqL K H1 a xs/\R (Ite K a) H1):qfA K tas σ H R:=h
section
variable {X:Cx}
inductive rPart (x:V) (vs:List V) (H:Hp) (Q:VK):Prop|mk (z y:_) (_:x=.str z) (_:vs=[.str y]) (_:(y.length==0)=false) (_:z.length<=sizeLine) (_:∀ p,H p=none->Q (.ref p) (upd H p (.tup [.str (Txt.partition z y).1,.str (Txt.partition z y).2.1,.str (Txt.partition z y).2.2])))
inductive rSplit (x:V) (vs:List V) (H:Hp) (Q:VK):Prop|mk (z y:_) (_:x=.str z) (_:vs=[.str y]) (_:(y.length==0)=false) (_:z.length + 2<=sizeLine) (_:∀ p,H p=none->Q (.ref p) (upd H p (.lst ((Txt.split z y).map V.str))))
end
end L2
namespace L2
open PySem PySem.Spec PyProof.Rows PySem.Builtin PySem.Builtin.Str
theorem qfB {a c:Nat} (h:a + 100 < c):a + 1 < c:=by omega
theorem vDGet2 {td ty tx:TE} {σ:St} {H:Hp} {Q:VK} (h:td σ H fun x H1=>∃ a,x=.ref a/\IsD H1 a/\ty σ H1 fun y H2=>tx σ H2 fun z H3=>∃ o,DGet H3 a y o/\Q (o.getD z) H3):tDGet2 td ty tx σ H Q:=h
end L2
namespace L2
open PySem PySem.Spec PyProof.Rows
theorem eqV_strD (a b:Str):eqV (.str a) (.str b)=decide (a=b):=by
 have e:eqV (.str a) (.str b)=(a==b):=by simp [eqV]
 rw [e,Yq,Yo,yR]
theorem qcD:∀ (ys:List Str) (y:Str) (m:Nat) (hm:m < ys.length),m < ys.idxOf y->ys[m]≠y
 | [],_,_,hm,_=>by simp at hm
 | a::r,y,m,hm,h=>by
  rw [List.idxOf_cons] at h;by_cases e:a=y
  ·subst e;simp at h
  ·have hb:(a==y)=false:=YJ.mpr e;rw [hb] at h
   cases m with
   | zero=>exact e
   | succ k =>
    have hk:k < r.idxOf y:=by
     have h:k + 1 < r.idxOf y + 1:=h;omega
    exact qcD r y k (by simpa using hm) hk
section
variable {X:Cx} {K:yg}
inductive rIndex (K:yg) (x:V) (vs:List V) (H:Hp) (Q:VK):Prop|mk (p:Addr) (ys:List Str) (y:Str) (_:x=.ref p) (_:vs=[.str y]) (_:SqL K H p (ys.map V.str)) (_:y∈ys) (_:Q (.int (ys.idxOf y:Nat)) H)
theorem qb5 (hK:X.K=K):MtR X "list.index" (rIndex K):=by
 subst hK;intro pins s σ H x vs v us Q I rx rv h;obtain ⟨p,ys,y,rfl,rfl,hq,hy,q⟩:=h;cases rx;obtain ⟨u,rfl,ru⟩:=rv.one;obtain ⟨its,r,pl,hz⟩:=I.list hq;obtain ⟨⟨cls,dd,data,sl⟩,ho,hc,n,hd⟩:=id pl.isList;simp only at hc hd;subst hc hd;have fs:(ys.map V.str).all zM=true:=by rw [kG];exact YW.mpr fun _ _=>rfl
 have hlen:(ys.map V.str).length=its.length:=r.length;rw [ya] at hlen;have hj:ys.idxOf y < ys.length:=List.idxOf_lt_length_iff.mpr hy
 have at_:∀ (m:Nat) (hm:m < ys.length) (hm':m < its.toArray.size),eqU (.str y) its.toArray[m]=decide (ys[m]=y):=fun m hm hm'=>by
  have g:(ys.map V.str)[m]?=some (.str ys[m]):=by rw [yd,yb hm];rfl
  obtain ⟨w,hw,rw'⟩:=r.get g
  have e:its.toArray[m]=w:=by
   have:its.toArray[m]?=some w:=by simpa using hw
   rw [xu hm'] at this;exact ym this
  rw [e,qd1 rw' rfl,eqV_strD]
 have hi:ys.length<=sizeLine:=by rw [ya] at hz;exact hz
 have hsl:sizeLine < 2 ^ 63 - 1:=by decide
 refine XM Y6 ⟨_,ho,rfl⟩ PySem.F.entry_list_index (PySem.F.args_list_index_2 _ _)
  (SeqAt.list_indexAt p its.toArray n dd sl u (eqU (.str y)) (ys.idxOf y) (by simpa [<- hlen] using hj) (by omega) ?_ ?_) ⟨ho,fun w hw=>qab ru rfl r fs w (by simpa using hw),.int _,H,I.tok _,⟨_,rfl⟩,q⟩
 ·rw [at_ _ hj];exact yG (YY hj)
 ·intro m hm hlt;rw [at_ m (by omega)];exact yl fun e=>qcD ys y m (by omega) hlt e
end
theorem zT (xs:List V) (k:Nat):qb0 xs none (some (k:Int))=xs.take k:=by
 unfold qb0;rw [HT.sIx_none,HT.sIx_nat,List.drop_zero,kS];by_cases h:k<=xs.length
 ·rw [kL h]
 ·rw [kB (by omega),YI (yh _),YI (by omega)]
theorem qaF (xs:List V) (k:Nat):qb0 xs (some (k:Int)) none=xs.drop k:=by
 unfold qb0;rw [HT.sIx_none,HT.sIx_nat];by_cases h:k<=xs.length
 ·rw [kL h,YI (by rw [Xl];omega)]
 ·rw [kB (by omega),List.drop_length,List.drop_of_length_le (by omega)];simp
section
variable {X:Cx} {K:yg}
inductive rNotT (K:yg) (x:V) (y:V) (H:Hp) (Q:VK):Prop|mk (p xs e n:_) (_:y=.ref p) (_:SqT K H p xs) (_:n<=60) (_:(∀ z∈xs,EqD K H n z x (e z))) (_:Q (.bl (!xs.any e)) H)
theorem qdx:∀ {ns:List Int} {us:List Value},Vals (ns.map V.int) us->IntsAre us ns
 | [],_,.nil=>.nil
 | n::ns,_,.cons r t=>by
  obtain ⟨tk,rfl⟩:=r;exact .cons n tk (qdx t)
inductive rSum (K:yg) (xs:List V) (H:Hp) (Q:VK):Prop|mk (p:Addr) (ns:List Int) (_:xs=[.ref p]) (_:SqL K H p (ns.map V.int)) (_:Q (.int ns.sum) H)
theorem k_sum (hK:X.K=K) (hc:X.calm=true):zL X (.builtin "sum") (rSum K):=by
 subst hK;intro pins s σ H xs us Q I r h;obtain ⟨p,ns,rfl,hq,q⟩:=h;obtain ⟨u,rfl,ru⟩:=qbZ r;cases ru;obtain ⟨its,rv,pl,hz⟩:=I.list hq;have hi:=qdx rv;obtain ⟨xs,hx⟩:=hi.allInts.items;have hl':s.heap.IsList p (intItems xs):=hx ▸ pl.isList;refine sum_intListG (I.ok.hd hc) hl' fun h' tk t' hk=>?_
 have e1:ns=xs.toList.map (·.1):=by
  rw [<- nums_intItems,<- hx];exact (show numsOf its.toArray.toList=ns from hi.numsOf).symm
 have e2:preSum (numAt xs) xs.size=ns.sum:=by
  rw [preSum_eq,YI (by simp),e1]
 rw [e2];exact ⟨.int _,H,I.kept hk,⟨_,rfl⟩,q⟩
theorem boot_sum:bootBuiltins "sum"=some (.builtin "sum"):=by decide +kernel
end
end L2
namespace HT
open PySem PySem.Spec PyProof.Rows
section
variable {prog:Program} {w:World} {A:Around} {E:Value->Shared->Prop} {s:Shared}
end
end HT
namespace L2
open PySem PySem.Spec PyProof.Rows
noncomputable def tStep (K:yg) (te:TE) (ts:TO):TE:=fun σ H Q=>te σ H fun x H1=>ts σ H1 fun o H2=>∃ a y z,x=.ref a/\SqT K H2 a [y,z]/\((o=some (-1)/\∀ p,H2 p=none->Q (.ref p) (upd H2 p (.tup [z,y])))\/(o=some 1/\Q (.ref a) H2))
theorem vStep {K:yg} {te:TE} {ts:TO} {σ:St} {H:Hp} {Q:VK} (h:te σ H fun x H1=>ts σ H1 fun o H2=>∃ a y z,x=.ref a/\SqT K H2 a [y,z]/\((o=some (-1)/\∀ p,H2 p=none->Q (.ref p) (upd H2 p (.tup [z,y])))\/(o=some 1/\Q (.ref a) H2))):tStep K te ts σ H Q:=h
section
variable {X:Cx} {K:yg} {e st:Expr} {te:TE} {ts:TO} {p2 pos:Pos}
end
noncomputable def FG (K:yg) (nm:Str) (st:Stmt):Prop:=∃ f fd,PySem.W.nsIn K mainGlobals nm=some (some (.ref f))/\Fun K nm nm st f fd
noncomputable def FM (K:yg) (C:Addr) (m ql:Str) (st:Stmt):Prop:=∃ f fd,PySem.W.findIn K (.ref C) m=some (some (.ref f))/\PySem.W.isFn K (.ref f)=true/\Fun K m ql st f fd
structure XQ (K:yg) (C:Addr):Prop where
 xa:PySem.W.findIn K (.ref C) "__getattribute__"=some (some (.builtin "BaseException.__getattribute__"))
 xb:PySem.W.findIn K (.ref C) "__getattr__"=some none
 xd:PySem.W.mroIn K C (.type "BaseException")=some true
 xe:PySem.W.mroIn K C (.type "object")=some true
 xf:PySem.W.hasDictIn K C=true
 xg:PySem.W.findIn K (.ref C) "__class__"=some (some (.builtin "object.__class__"))
 xh:PySem.W.findIn K (.ref C) "__setattr__"=some (some (.builtin "object.__setattr__"))
 p:PySem.W.keepIn K (.ref C)=true
section
variable {P:Program} {w:World} {K:yg} {mg:Str->Option Value} {base h:Heap} {CX:CXT} {k:Nat} {sp:Sp} {st:Stmt} {f:Addr} {fd:FuncData} {ps:List Str} {nm m ql x:Str} {C:Addr}
theorem lN0 {P:List Value->Prop} (h:P []):∀ us:List Value,us.length=0->P us:=fun us e=>by rw [List.eq_nil_of_length_eq_zero e];exact h
theorem lNs {P:List Value->Prop} {n:Nat} (h:∀ a r,r.length=n->P (a::r)):∀ us:List Value,us.length=n+1->P us:=fun us e=>by
 cases us with
 |nil=>cases e
 |cons a r=>exact h a r (Nat.succ.inj e)
theorem lN1 {P:List Value->Prop} (h:∀ a,P [a]):∀ us:List Value,us.length=1->P us:=lNs fun a=>lN0 (h a)
theorem lN2 {P:List Value->Prop} (h:∀ a b,P [a,b]):∀ us:List Value,us.length=2->P us:=lNs fun a=>lN1 (h a)
theorem lN3 {P:List Value->Prop} (h:∀ a b c,P [a,b,c]):∀ us:List Value,us.length=3->P us:=lNs fun a=>lN2 (h a)
theorem lN4 {P:List Value->Prop} (h:∀ a b c d,P [a,b,c,d]):∀ us:List Value,us.length=4->P us:=lNs fun a=>lN3 (h a)
theorem lN5 {P:List Value->Prop} (h:∀ a b c d e,P [a,b,c,d,e]):∀ us:List Value,us.length=5->P us:=lNs fun a=>lN4 (h a)
theorem lN6 {P:List Value->Prop} (h:∀ a b c d e g,P [a,b,c,d,e,g]):∀ us:List Value,us.length=6->P us:=lNs fun a=>lN5 (h a)
noncomputable abbrev BA (x ql:Str) (st:Stmt) (ps:List Str):Prop:=∀ (kV doc pm:Value) (an:Option Addr) (cdv ct:Value) (us:List Value),us.length=ps.length->bindArgs (PySem.W.fnOf x ql (qaq st) (zR st) (qg st) .none kV doc pm an cdv ct) ⟨us,[]⟩=pure (ps.zip us)
theorem fg_mk (X:K.In h) (G:h.Ns mainGlobals mg) (a:PySem.W.nsIn K mainGlobals nm=some (some (.ref f))) (F:Fun K nm nm st f fd) (o:FnOk P w K mg base CX k f fd ps sp)
  (hb:BA nm nm st ps:=by first | (exact fun _ _ _ _ _ _=>lN1 fun _=>rfl) | (exact fun _ _ _ _ _ _=>lN2 fun _ _=>rfl) | (exact fun _ _ _ _ _ _=>lN3 fun _ _ _=>rfl) | (exact fun _ _ _ _ _ _=>lN4 fun _ _ _ _=>rfl)) :
  DefOk P w K mg base CX k nm ps sp:=⟨_,_,o,PySem.W.mg_of X G a,F.kp,F.binds hb⟩
theorem fm_mk (wcl:Cls K C) (a:PySem.W.findIn K (.ref C) m=some (some (.ref f))) (n:PySem.W.isFn K (.ref f)=true) (F:Fun K m ql st f fd) (o:FnOk P w K mg base CX k f fd ps sp)
  (hb:BA m ql st ps:=by first | (exact fun _ _ _ _ _ _=>lN1 fun _=>rfl) | (exact fun _ _ _ _ _ _=>lN2 fun _ _=>rfl) | (exact fun _ _ _ _ _ _=>lN3 fun _ _ _=>rfl) | (exact fun _ _ _ _ _ _=>lN4 fun _ _ _ _=>rfl)) :
  MethOk P w K mg base CX k C m ps sp:=⟨⟨_,_,o,⟨a,n,F.kp⟩,F.binds hb⟩,wcl⟩
theorem fw_mk (X:K.In h) (G:h.Ns mainGlobals mg) (c:PySem.W.nsIn K mainGlobals x=some (some (.ref C))) (w5:PySem.W.makesIn K C=true) (w6:PySem.W.keepIn K (.ref C)=true) (a:PySem.W.findIn K (.ref C) "__init__"=some (some (.ref f))) (n:PySem.W.isFn K (.ref f)=true) (F:Fun K "__init__" ql st f fd) (o:FnOk P w K mg base CX k f fd ps sp)
  (hb:BA "__init__" ql st ps:=by first | (exact fun _ _ _ _ _ _=>lN1 fun _=>rfl) | (exact fun _ _ _ _ _ _=>lN2 fun _ _=>rfl) | (exact fun _ _ _ _ _ _=>lN3 fun _ _ _=>rfl)) :
  MakeOk P w K mg base CX k C x ps sp:=⟨⟨_,_,o,⟨w5,a,n,w6⟩,F.binds hb⟩,PySem.W.mg_of X G c⟩
end
end L2
namespace HT
open PySem PySem.Spec PyProof.Rows
section
variable {prog:Program} {w:World} {A:Around} {E:Value->Shared->Prop} {s:Shared}
end
end HT
namespace L2
open PySem PySem.Spec PyProof.Rows
variable {H:Hp} {R:It->Hp->Prop} {es:List Expr} {pos:Pos} {te:TE} {σ:St}
section
variable {X:Cx} {K:yg} {pos p:Pos} {x:Str}
inductive rJoinU (K:yg) (x:V) (vs:List V) (H:Hp) (Q:VK):Prop|mk (z:Str) (p:Addr) (ys:List Str) (_:x=.str z) (_:vs=[.ref p]) (_:(SqL K H p (ys.map V.str)\/SqT K H p (ys.map V.str))) (_:(ys.map (·.length)).sum + ys.length * z.length<=16777216) (_:Q (.str (Txt.join z ys)) H)
end
section
variable {X:Cx} {K:yg} {e lo st:Expr} {te:TE} {tl ts:TO} {p2 pos:Pos}
noncomputable def qgi (K:yg) (te:TE):TI:=fun σ H R=>te σ H fun v H1=>∃ a xs,v=.ref a/\SqL K H1 a xs/\R (Itl K a) H1
theorem qeD {K:yg} (h:te σ H fun v H1=>∃ a xs,v=.ref a/\SqL K H1 a xs/\R (Itl K a) H1):qgi K te σ H R:=h
theorem qdy {tg:Expr} (hK:X.K=K) (he:PE X e te):PI X tg e (qgi K te):=by
 subst hK;intro pins s σ H R I h;refine thn (he pins s σ H _ I h) fun v s1 ⟨y,H1,I1,r1,a,xs,ey,hq,q⟩=>?_;subst ey;cases r1
 have fp:∀ b∈[s1.heap.objs.size],qcQ X pins H1 b:=fun b hb=>by
  have e:b=s1.heap.objs.size:=by simpa using hb
  subst e;exact I1.fpOk (yh _) (I1.hok.fresh (yh _))
 obtain ⟨its,rv,p,hz⟩:=I1.list hq;exact XC p.isList ⟨s1.heap.objs.size,[s1.heap.objs.size],_,_,H1,rfl,I1.kept (t':=s1.toks) fun b o e=>yw _ e,qck a _,⟨_,yU _ rfl,rfl,rfl⟩,fp,q⟩
end
noncomputable def Itz (K:yg) (a b:Addr):It:=
 ⟨fun i H=>∃ xs ys x y,SqL K H a xs/\SqL K H b ys/\xs[i]?=some x/\ys[i]?=some y,fun i H v H'=>∃ t x y,v=.ref t/\H t=none/\H'=upd H t (.tup [x,y])/\(∀ xs,SqL K H a xs->xs[i]?=some x)/\∀ ys,SqL K H b ys->ys[i]?=some y,fun i H=>∃ xs ys,SqL K H a xs/\SqL K H b ys/\(xs.length<=i\/ys.length<=i)⟩
noncomputable def tnZ (z TI TO i1 i2 a b:Addr) (i:Nat) (h:Heap):Prop:=IsZip h z TI TO .none/\IsPair h TI (.ref i1) (.ref i2)/\(∃ u v,IsPair h TO u v)/\h.IsListIter i1 a i/\h.IsListIter i2 b i
theorem turn_zip {P:Program} {w:World} {K:yg} {x1} (a b z TI TO i1 i2:Addr) (D:ZipApart z TI TO i1 i2 a b):Turn P w K (.Tuple es x1 pos) (Itz K a b) [z,TI,TO,i1,i2] z (tnZ z TI TO i1 i2 a b) where
 mem:=by simp
 obj:=fun i h st c hc=>by
  obtain ⟨hz,hTI,⟨u,v,hTO⟩,⟨o1,e1,c1,d1⟩,⟨o2,e2,c2,d2⟩⟩:=st;simp only [yB,yY,YB] at hc;rcases hc with rfl | rfl | rfl | rfl | rfl
  ·exact ⟨_,hz,fun v z=>by have z':Data.fields _=Data.cell v:=z;cases z'⟩
  ·exact ⟨_,hTI,fun v z=>by have z':Data.seq _ _=Data.cell v:=z;cases z'⟩
  ·exact ⟨_,hTO,fun v z=>by have z':Data.seq _ _=Data.cell v:=z;cases z'⟩
  ·exact ⟨o1,e1,fun v z=>by rw [d1] at z;cases z⟩
  ·exact ⟨o2,e2,fun v z=>by rw [d2] at z;cases z⟩
 keep:=fun i h h' st k=>by
  obtain ⟨hz,hTI,⟨u,v,hTO⟩,h1,h2⟩:=st;exact ⟨k z (by simp) _ hz,k TI (by simp) _ hTI,⟨u,v,k TO (by simp) _ hTO⟩,h1.at fun o x=>k i1 (by simp) o x,h2.at fun o x=>k i2 (by simp) o x⟩
 item:=by
  intro X hP hw hK hc i pins s σ H E I hf st hg;subst hP hw hK;obtain ⟨hz,hTI,⟨u,v,hTO⟩,h1,h2⟩:=st;obtain ⟨xs,ys,x,y,hq,hq2,hx,hy⟩:=hg;obtain ⟨its,rv,p,_⟩:=I.list hq;obtain ⟨its2,rv2,p2,_⟩:=I.list hq2;obtain ⟨u1,hu1,ru1⟩:=rv.get hx;obtain ⟨u2,hu2,ru2⟩:=rv2.get hy;refine wpAny_pyNext_zip_item D hz hTI hTO h1 h2 p.isList p2.isList (x:=u1) (y:=u2) (by simpa using hu1) (by simpa using hu2) fun h' hz' hTO' h1' h2' hT hsz hk=>?_;refine ⟨_,rfl,wpAny_letOwnedTupleGo_zip hz' fun h3 hz3 hs3=>?_⟩;have fre:H s.heap.objs.size=none:=I.hok.fresh (yh _);have lt:∀ {c o},s.heap.get? c=some o->s.heap.objs.size≠c:=fun e=>Yh (yK e);have nz:=lt hz;have nTI:=lt hTI;have nTO:=lt hTO;have n1:s.heap.objs.size≠i1:=by obtain ⟨_,e,_⟩:=h1;exact lt e
  have n2:s.heap.objs.size≠i2:=by obtain ⟨_,e,_⟩:=h2;exact lt e
  have I1:Inv X pins σ (upd H s.heap.objs.size (.tup [x,y])) { s with heap:=s.heap.push { cls:=.type "tuple",data:=.seq #[u1,u2] },toks:=s.toks }:=
   I.laid (fun b u e=>yw _ e) (yh _) ⟨by show 2<=sizeLine;decide,[u1,u2],.cons ru1 (.cons ru2 .nil),⟨_,yU _ rfl,rfl,_,rfl⟩⟩
  have hf1:∀ c∈[z,TI,TO,i1,i2],qcQ X pins (upd H s.heap.objs.size (.tup [x,y])) c:=fun c hc=>by
   obtain ⟨f0,f⟩:=hf c hc;refine ⟨?_,f⟩;rw [qf]
   ·exact f0
   ·simp only [yB,yY,YB] at hc;rcases hc with rfl | rfl | rfl | rfl | rfl
    ·exact nz.symm
    ·exact nTI.symm
    ·exact nTO.symm
    ·exact n1.symm
    ·exact n2.symm
  have kk:∀ c o,c∉[z,TI,TO,i1,i2]->(s.heap.push { cls:=.type "tuple",data:=.seq #[u1,u2] }).get? c=some o->h3.get? c=some o:=fun c o hc e=>by
   simp only [yB,yY,YB,not_or] at hc;refine hs3.extBut _ _ hc.1 ?_;by_cases hz:c=s.heap.objs.size
   ·subst hz;rw [yU _ rfl] at e;cases e;exact hT
   ·exact hk c o hc.1 hc.2.2.1 hc.2.2.2.1 hc.2.2.2.2 (qcC e hz)
  have I2:=I1.turnedL (h':=h3) (t':=s.toks) (fp:=[z,TI,TO,i1,i2]) kk hf1;refine ⟨.ref s.heap.objs.size,_,I2,rfl,⟨_,x,y,rfl,fre,rfl,fun xs' hx'=>by rw [I.list_inj hx' hq];exact hx,fun ys' hy'=>by rw [I.list_inj hy' hq2];exact hy⟩,⟨hz3,?_,⟨_,_,hs3.extBut _ _ D.TOz hTO'⟩,h1'.extBut hs3.extBut D.i1z,h2'.extBut hs3.extBut D.i2z⟩,fun c hc=>(hf1 c hc).1⟩;exact hs3.extBut _ _ D.TIz (hk _ _ D.TIz D.TITO D.TIi1 D.TIi2 hTI)
 done:=by
  intro X hP hw hK hc i pins s σ H E I hf st hg;subst hP hw hK;obtain ⟨hz,hTI,⟨u,v,hTO⟩,h1,h2⟩:=st;obtain ⟨xs,ys,hq,hq2,he⟩:=hg;obtain ⟨its,rv,p,_⟩:=I.list hq;obtain ⟨its2,rv2,p2,_⟩:=I.list hq2;have l1:=rv.length;have l2:=rv2.length;refine wpAny_pyNext_zip_end (I.ok.hd hc) D hz hTI hTO h1 h2 p.isList p2.isList (he.imp (fun e=>xl (by simp;omega)) fun e=>xl (by simp;omega)) fun h' hk=>⟨rfl,I.turnedL (t':=s.toks) (fp:=[z,TI,TO,i1,i2]) (fun c o hc e=>?_) hf⟩;simp only [yB,yY,YB,not_or] at hc;exact hk c o hc.1 hc.2.2.1 hc.2.2.2.1 hc.2.2.2.2 e
 self:=fun _ _ _ _ _ st h=>kC st.1 h
theorem qdz:bootBuiltins "zip"=some (.type "zip"):=by decide +kernel
noncomputable def qgj (K:yg) (ta:TA):TI:=fun σ H R=>ta σ H fun vs H1=>∃ a b xs ys,vs=[.ref a,.ref b]/\SqL K H1 a xs/\SqL K H1 b ys/\R (Itz K a b) H1
theorem vZip {K:yg} {tas:TA} (h:tas σ H fun vs H1=>∃ a b xs ys,vs=[.ref a,.ref b]/\SqL K H1 a xs/\SqL K H1 b ys/\R (Itz K a b) H1):qgj K tas σ H R:=h
theorem pi_zip {X:Cx} {K:yg} {a b:Expr} {ta:TA} {x1} {tp p:Pos} (hK:X.K=K) (hg:Gl X "zip") (hm:X.mg "zip"=none) (ha:PA X [a,b] ta) (hs:starEach [a,b] X.env=[(false,eval a X.env),(false,eval b X.env)]:=by rfl) (hs2:starEach [b] X.env=[(false,eval b X.env)]:=by rfl):PI X (.Tuple es x1 tp) (.Call (.Name "zip" p) [a,b] [] pos) (qgj K ta):=by
 subst hK;intro pins s σ H R I h;refine Call_ (qaw I hg hm qdz (Yz (thn (ha pos pins s σ H _ I h) fun us s1 ⟨vs,H1,I1,r1,q1⟩=>?_) (by rw [hs,hs2]) (by rw [hs2];rfl)));obtain ⟨a,b,xs,ys,e,hq,hq2,q⟩:=q1;subst e
 cases r1 with
 | cons r rr =>
  cases rr with
  | cons r2 rr =>
   cases rr;cases r;cases r2;obtain ⟨its,rv,pl,_⟩:=I1.list hq;obtain ⟨its2,rv2,pl2,_⟩:=I1.list hq2;have lta:a < s1.heap.objs.size:=by obtain ⟨_,e,_⟩:=pl.isList;exact yK e
   have ltb:b < s1.heap.objs.size:=by obtain ⟨_,e,_⟩:=pl2.isList;exact yK e
   refine call_zip_2 pl.isList pl2.isList fun h' hz hTI hTO hi1 hi2 hsz hk=>kC hz ?_;refine ⟨_,[s1.heap.objs.size + 4,s1.heap.objs.size + 2,s1.heap.objs.size + 3,s1.heap.objs.size,s1.heap.objs.size + 1],_,_,H1,rfl,I1.kept (t':=s1.toks) hk,turn_zip a b _ _ _ _ _ (PySem.W.ktu_apart _ _ _ lta ltb),⟨hz,hTI,⟨_,_,hTO⟩,hi1,hi2⟩,fun c hc=>?_,q⟩;simp only [yB,yY,YB] at hc;rcases hc with rfl | rfl | rfl | rfl | rfl
   ·exact I1.fpOk (xR _ _) (I1.hok.fresh (xR _ _))
   ·exact I1.fpOk (xR _ _) (I1.hok.fresh (xR _ _))
   ·exact I1.fpOk (xR _ _) (I1.hok.fresh (xR _ _))
   ·exact I1.fpOk (yh _) (I1.hok.fresh (yh _))
   ·exact I1.fpOk (Xg _) (I1.hok.fresh (Xg _))
noncomputable def qgk (K:yg) (te:TE) (ts:TO):TE:=fun σ H Q=>te σ H fun x H1=>ts σ H1 fun o H2=>o=some (-1)/\∃ a xs,x=.ref a/\SqL K H2 a xs/\∀ p,H2 p=none->Q (.ref p) (upd H2 p (.lst xs.reverse))
theorem qgl {K:yg} {ts:TO} {Q:VK} (h:te σ H fun x H1=>ts σ H1 fun o H2=>o=some (-1)/\∃ a xs,x=.ref a/\SqL K H2 a xs/\∀ p,H2 p=none->Q (.ref p) (upd H2 p (.lst xs.reverse))):qgk K te ts σ H Q:=h
theorem qb6:∀ {xs:List V} {us:List Value},Vals xs us->Vals xs.reverse us.reverse
 | _,_,.nil=>.nil
 | _,_,.cons r t=>by
  rw [List.reverse_cons,List.reverse_cons];exact (qb6 t).append (.cons r .nil)
section
variable {X:Cx} {K:yg} {e st:Expr} {te:TE} {ts:TO} {p2 pos:Pos}
theorem qeP (hK:X.K=K) (he:PE X e te) (hs:PO X (some st) ts):PE X (.Subscript e (.Slice none none (some st) p2) pos) (qgk K te ts):=by
 subst hK;intro pins s σ H Q I h;refine Subscript_ (thn (he pins s σ H _ I h) fun v s1 ⟨x,H1,I1,r1,q1⟩=>?_);refine wpAny_Slice ?_;rw [kn];refine yx ?_;refine yx ?_;refine thn (hs pins s1 σ H1 _ I1 q1) fun vt s2 ⟨o,H2,I2,pt,eo,a,xs,ex,hx,q⟩=>?_;subst eo ex;cases r1;have I4:Inv X pins σ H2 { s2 with heap:=s2.heap.push { cls:=.type "slice",data:=.fields #[.none,.none,vt] } }:=I2.kept (t':=s2.toks) fun b ob q=>yw _ q;obtain ⟨its,r,ht,hz⟩:=I4.list hx;have hlen:=r.length;show wpAny (model X.prog X.w) X.A (subscriptTail e (.Slice none none (some st) p2) (.ref a) (.ref s2.heap.objs.size)) (EP X pins σ Q) X.xe { s2 with heap:=s2.heap.push { cls:=.type "slice",data:=.fields #[.none,.none,vt] } };refine tail_any (ops:=[.ref a,.ref s2.heap.objs.size]) ht.isList.typeIs Xd.lookup (xD ht.isList (Xv ..) .none .none pt (by decide) ?_ (by rw [yv]<;>omega)) (by with_unfolding_all rfl);rw [PySem.W.krv_pick];refine ⟨.ref _,_,I4.laid (t':=s2.toks) (o:=.lst xs.reverse) (fun b ob q=>yw _ q) (yh _) ?_,rfl,q _ (I4.hok.fresh (yh _))⟩;exact ⟨by rw [Yt];exact hz,_,0,qb6 r,yU _ rfl⟩
end
section
variable {X:Cx} {a:Expr} {ta:TA} {p p2 pos pos2:Pos}
end
end L2
namespace L2
structure Sb (V:Nat->Prop):Prop where
 z:V 0
 a:∀ x y,V x->V y->V (x ^^^ y)
noncomputable def jn (V:Nat->Prop) (x:Nat):Nat->Prop:=fun y=>V y\/V (y ^^^ x)
noncomputable def Spn:List Nat->Nat->Prop
 | []=>fun y=>y=0
 | a::L=>jn (Spn L) a
open Classical in
noncomputable def Bnd (b n v:Nat):Prop:=∀ i,v.testBit i=true->b<=i/\i < b + n
open Classical in
noncomputable def swp:Nat->Nat->List Nat->Nat
 | 0,_,_=>0
 | n + 1,b,L=>match L.filter (fun v=>v.testBit b) with
  | []=>swp n (b + 1) L
  | p::t=>1 + swp n (b + 1) (L.filter (fun v=>!v.testBit b)++t.map fun v=>v ^^^ p)
open Classical in
noncomputable def rk (L:List Nat):Nat:=swp 30 0 L
open Classical in
noncomputable def les:Nat×Nat->List (Nat×Nat)->Nat×Nat
 | s,[]=>s
 | s,o::os=>if s.1 ^^^ o.1 < s.1 then les (s.1 ^^^ o.1,s.2 ^^^ o.2) os else les s os
structure Ech (os:List (Nat×Nat)):Prop where
 nz:∀ o∈os,o.1≠0
 pw:os.Pairwise fun a b=>b.1.testBit a.1.log2=false
noncomputable def csm:List Nat->Nat->Nat->Nat
 | [],_,_=>0
 | a::L,k,c=>(if c.testBit k then a else 0) ^^^ csm L (k + 1) c
noncomputable def stp (st:List (Nat×Nat)) (n v:Nat):List (Nat×Nat):=if (les (v,1 <<< n) st).1=0 then st else st++[les (v,1 <<< n) st]
structure Stp (L:List Nat) (n:Nat) (st:List (Nat×Nat)):Prop where
 ech:Ech st
 sum:∀ o∈st,csm L 0 o.2=o.1
 low:∀ o∈st,o.2 < 2 ^ n
 lt:∀ o∈st,o.1 < 2 ^ 30
 spn:∀ v,Spn (st.map (·.1)) v↔Spn (L.take n) v
 free:st.map (fun o=>o.2.log2)=(List.range n).filter fun i=>decide (rk (L.take i) < rk (L.take (i + 1)))
 len:st.length<=n
end L2
namespace L2
open PySem PySem.Spec PyProof.Rows
variable {H:Hp} {i j:Nat} {σ:St}
section
variable {X:Cx}
inductive rBitLen (x:V) (vs:List V) (H:Hp) (Q:VK):Prop|mk (n:Nat) (_:x=.int (n:Int)) (_:vs=[]) (_:n≠0) (_:Q (.int ((n.log2 + 1:Nat):Int)) H)
end
noncomputable def Fl:V->Prop
 | .non=>True
 | .bl _=>True
 | .int i=>-999999999999<=i/\i<=999999999999
 | _=>False
noncomputable def fD:V->PyData
 | .non=>.none
 | .bl b=>.bool b
 | .int i=>.int i
 | .str x=>.str x
 | _=>.none
noncomputable def FlS (xs:List V):Prop:=xs.length<=1000/\∀ x∈xs,Fl x
noncomputable def ShwT (H:Hp) (v:V) (t:Str):Prop:=match v with
 | .non=>t="None"
 | .bl b=>t=if b then Str.ofString "True" else Str.ofString "False"
 | .int i=>i.natAbs.log2 < 1920/\t=toString i
 | .str x=>(reprText x).length<=sizeLine/\t=reprText x
 | .ref p=>(∃ xs,H p=some (.lst xs)/\FlS xs/\t=(PyData.list (xs.map fD)).shown)\/∃ xs,H p=some (.tup xs)/\FlS xs/\t=(PyData.tuple (xs.map fD)).shown
 | _=>False
section
variable {X:Cx} {K:yg}
inductive rRepr (xs:List V) (H:Hp) (Q:VK):Prop|mk (v t:_) (_:xs=[v]) (_:ShwT H v t) (_:Q (.str t) H)
end
theorem gk_two {nl n:Nat} {K:yg} (hi:i < nl:=by decide) (hj:j < nl:=by decide):qd5 nl (qf8 K n (qeZ (qbY i) (qeZ (qbY j) qf7))):=by
 intro x σ H Q ⟨a,xs,e,hs,hn,v,r,e1,v2,r2,e2,q⟩;obtain ⟨e3,q⟩:=q;refine ⟨a,xs,e,hs,hn,v,r,e1,v2,r2,e2,e3,q,?_,fun k hk=>?_⟩
 ·rw [xx,xx]
 ·rw [xz (by omega),xz (by omega)]
section
variable {K:yg} {a:Addr} {xs:List V} {g:TG} {tc:TT} {te:TE} {σ':St} {H1:Hp} {Q:V->Hp->Prop}
end
section
variable {K:yg} {a b:Addr} {xs ys:List V} {g:TG} {tc:TT} {te:TE} {σ':St} {H1:Hp} {Q:V->Hp->Prop}
theorem comp_zip (el:ys.length<=xs.length) (Pv:Nat->List V->Hp->Prop) (h0:Pv 0 [] H1) (hl:∀ i zs H,i<=ys.length->Pv i zs H->SqL K H a xs/\SqL K H b ys)
  (hs:∀ i x y t zs H,xs[i]?=some x->ys[i]?=some y->H t=none->Pv i zs H->g (.ref t) σ' (upd H t (.tup [x,y])) fun σ2 H2=>tc σ2 H2 fun b H3=>if b=true then te σ2 H3 fun v H4=>zs.length < sizeLine/\Pv (i + 1) (zs++[v]) H4 else Pv (i + 1) zs H3)
  (hd:∀ zs H,Pv ys.length zs H->zs.length<=sizeLine/\∀ p,H p=none->Q (.ref p) (upd H p (.lst zs))):qd6 (Itz K a b) g tc te σ' H1 Q:=by
 refine ⟨fun i m zs H=>m=ys.length - i/\i<=ys.length/\Pv i zs H,⟨ys.length,by simp,YK _,h0⟩,?_⟩;rintro i m zs H ⟨rfl,hi,p⟩;obtain ⟨q,q2⟩:=hl i zs H hi p;by_cases hlt2:i < ys.length
 ·have hlt:i < xs.length:=by omega
  refine .inr ⟨⟨xs,ys,xs[i],ys[i],q,q2,by simp [hlt],by simp [hlt2]⟩,Pv (i + 1),fun ys' H' p'=>⟨ys.length - (i + 1),by omega,rfl,hlt2,p'⟩,fun x H' y=>?_⟩;obtain ⟨t,v,u,rfl,ht,rfl,y,y2⟩:=y;exact hs i v u t zs _ (y xs q) (y2 ys q2) ht p
 ·have e:i=ys.length:=by omega
  subst e;exact .inl ⟨⟨xs,ys,q,q2,.inr (yh _)⟩,hd zs H p⟩
end
section
variable {X:Cx} {K:yg}
inductive rSorted (K:yg) (xs:List V) (H:Hp) (Q:VK):Prop|mk (p:Addr) (ns:List Int) (_:xs=[.ref p]) (_:SqL K H p (ns.map V.int)) (_:ns.length < 64) (_:∀ (l:Addr) (ms:List Int),H l=none->ms.Perm ns->ms.Pairwise (·<=·)->Q (.ref l) (upd H l (.lst (ms.map V.int))))
end
theorem pick_one (its:List Value):slicePick its.toArray none none (some 1)=its.toArray:=by
 have e:slicePick its.toArray none none (some 1)=slicePick its.toArray none none none:=rfl;rw [e,qaz,HT.sIx_none,HT.sIx_none];simp
noncomputable def qgm (K:yg) (te:TE) (ts:TO):TE:=fun σ H Q=>te σ H fun x H1=>ts σ H1 fun o H2=>∃ a xs,x=.ref a/\SqL K H2 a xs/\((o=some (-1)/\∀ p,H2 p=none->Q (.ref p) (upd H2 p (.lst xs.reverse)))\/(o=some 1/\∀ p,H2 p=none->Q (.ref p) (upd H2 p (.lst xs))))
theorem vRv2 {K:yg} {te:TE} {ts:TO} {Q:VK} (h:te σ H fun x H1=>ts σ H1 fun o H2=>∃ a xs,x=.ref a/\SqL K H2 a xs/\((o=some (-1)/\∀ p,H2 p=none->Q (.ref p) (upd H2 p (.lst xs.reverse)))\/(o=some 1/\∀ p,H2 p=none->Q (.ref p) (upd H2 p (.lst xs))))):qgm K te ts σ H Q:=h
section
variable {X:Cx} {K:yg} {e st:Expr} {te:TE} {ts:TO} {p2 pos:Pos}
theorem pe_rv2 (hK:X.K=K) (he:PE X e te) (hs:PO X (some st) ts):PE X (.Subscript e (.Slice none none (some st) p2) pos) (qgm K te ts):=by
 subst hK;intro pins s σ H Q I h;refine Subscript_ (thn (he pins s σ H _ I h) fun v s1 ⟨x,H1,I1,r1,q1⟩=>?_);refine wpAny_Slice ?_;rw [kn];refine yx ?_;refine yx ?_;refine thn (hs pins s1 σ H1 _ I1 q1) fun vt s2 ⟨o,H2,I2,pt,a,xs,ex,hx,q⟩=>?_;subst ex;cases r1;have I4:Inv X pins σ H2 { s2 with heap:=s2.heap.push { cls:=.type "slice",data:=.fields #[.none,.none,vt] } }:=I2.kept (t':=s2.toks) fun b ob q=>yw _ q;obtain ⟨its,r,ht,hz⟩:=I4.list hx;have hlen:=r.length;show wpAny (model X.prog X.w) X.A (subscriptTail e (.Slice none none (some st) p2) (.ref a) (.ref s2.heap.objs.size)) (EP X pins σ Q) X.xe { s2 with heap:=s2.heap.push { cls:=.type "slice",data:=.fields #[.none,.none,vt] } };rcases q with ⟨eo,q⟩ | ⟨eo,q⟩
 ·subst eo;refine tail_any (ops:=[.ref a,.ref s2.heap.objs.size]) ht.isList.typeIs Xd.lookup (xD ht.isList (Xv ..) .none .none pt (by decide) ?_ (by rw [yv]<;>omega)) (by with_unfolding_all rfl);rw [PySem.W.krv_pick];refine ⟨.ref _,_,I4.laid (t':=s2.toks) (o:=.lst xs.reverse) (fun b ob q=>yw _ q) (yh _) ?_,rfl,q _ (I4.hok.fresh (yh _))⟩;exact ⟨by rw [Yt];exact hz,_,0,qb6 r,yU _ rfl⟩
 ·subst eo;refine tail_any (ops:=[.ref a,.ref s2.heap.objs.size]) ht.isList.typeIs Xd.lookup (xD ht.isList (Xv ..) .none .none pt (by decide) ?_ (by rw [yv]<;>omega)) (by with_unfolding_all rfl);rw [pick_one];refine ⟨.ref _,_,I4.laid (t':=s2.toks) (o:=.lst xs) (fun b ob q=>yw _ q) (yh _) ?_,rfl,q _ (I4.hok.fresh (yh _))⟩;exact ⟨hz,_,0,r,yU _ rfl⟩
end
mutual
inductive Dat (H:Hp):V->PyData->Prop
 | non:Dat H .non .none
 | bl (b:Bool):Dat H (.bl b) (.bool b)
 | int (i:Int):Dat H (.int i) (.int i)
 | str (x:Str):Dat H (.str x) (.str x)
 | lst {a:Addr} {xs:List V} {ds:List PyData}:H a=some (.lst xs)->DatS H xs ds->Dat H (.ref a) (.list ds)
 | tup {a:Addr} {xs:List V} {ds:List PyData}:H a=some (.tup xs)->DatS H xs ds->Dat H (.ref a) (.tuple ds)
 | dnil {a:Addr}:H a=some (.dK [])->Dat H (.ref a) (.dict [])
inductive DatS (H:Hp):List V->List PyData->Prop
 | nil:DatS H [] []
 | cons {v:V} {vs:List V} {d:PyData} {ds:List PyData}:Dat H v d->DatS H vs ds->DatS H (v::vs) (d::ds)
end
structure Shw (d:PyData) (n m:Nat):Prop where
 s:d.showable=true
 l:d.leavesShort 13=true
 b:d.bulk<=n
 p:d.depth<=m
structure ShwS (ds:List PyData) (n m:Nat):Prop where
 s:PyData.showableAll ds=true
 l:PyData.leavesShortAll 13 ds=true
 b:PyData.bulkAll ds<=n
 p:PyData.depthAll ds<=m
section
variable {X:Cx} {K:yg} {pins:List (Addr×Obj)} {σ:List (Option V)} {H:Hp} {s:Shared}
inductive rReprD (xs:List V) (H:Hp) (Q:VK):Prop|mk (v d:_) (_:xs=[v]) (_:Dat H v d) (_:Shw d (2 ^ 20) 60) (_:Q (.str d.shown) H)
end
section
variable {X:Cx} {tg elt iter:Expr} {ifs:List Expr} {scope sc1:Scope} {pos:Pos} {N N1:List Str} {nl:Nat} {ixs:List Nat} {wi:TI} {g:TG} {tc:TT} {te:TE} {C1:Addr} {s1:Shared} {H1:Hp} {ex1:List Addr}
end
noncomputable def qfC (kb:List (Key×V)):List (Key×V)->Bool
 | []=>true
 | (k,v)::r=>match jS kb k with
  | none=>false
  | some y=>eqV v y&&qfC kb r
inductive rEqDD (x:V) (y:V) (H:Hp) (Q:VK):Prop|mk (a b ka kb:_) (_:x=.ref a) (_:y=.ref b) (_:H a=some (.dK ka)) (_:H b=some (.dK kb)) (_:(∀ p∈ka,zM p.2=true)) (_:(∀ p∈kb,zM p.2=true)) (_:Q (.bl (ka.length==kb.length&&qfC kb ka)) H)
section
variable {X:Cx} {K:yg}
theorem qcE {td ty:TE} {σ:St} {H:Hp} {Q:VK} (h:td σ H fun x H1=>∃ a,x=.ref a/\IsD H1 a/\ty σ H1 fun y H2=>∃ o,DGet H2 a y o/\Q (o.getD .non) H2):qeK td ty σ H Q:=h
inductive rInsert (x:V) (vs:List V) (H:Hp) (Q:VK):Prop|mk (l:Addr) (xs:List V) (k:Nat) (y:V) (_:x=.ref l) (_:vs=[.int (k:Int),y]) (_:H l=some (.lst xs)) (_:k<=xs.length) (_:xs.length < sizeLine) (_:k < 2 ^ 62) (_:Q .non (upd H l (.lst (xs.take k++y::xs.drop k))))
inductive rIsNotB (x:V) (y:V) (H:Hp) (Q:VK):Prop|mk (i j:_) (_:x=.bl i) (_:y=.bl j) (_:Q (.bl (i != j)) H)
end
noncomputable abbrev Cx.soft (X:Cx):Cx:={ X with calm:=false }
structure RoomW (k:Nat) (A:Around):Prop where
 dp:A.depth + 3 * k + 5 < recursionLimit
 un:A.units + 16 * k + 200 < cLine
 gd:A.guards=some []
theorem RoomW.deeper {k:Nat} {A:Around} (r:RoomW (k + 1) A) (env:Env):RoomW k (A.deeper env):=
 ⟨by have:=r.dp;show A.depth + 1 + 3 * k + 5 < _;omega,by have:=r.un;show A.units + 3 + 16 * k + 200 < _;omega,r.gd⟩
theorem Room.soft {j k:Nat} {A:Around} {h:Option Value} (r:Room k A) (l:j<=k):RoomW j (A.mark h):=⟨by have:=r.dp;show A.depth + 3 * j + 5 < _;omega,by have:=r.un;show A.units + 16 * j + 200 < _;omega,r.gd⟩
structure FnOkW (P:Program) (w:World) (K:yg) (mg:Str->Option Value) (base:Heap) (k:Nat) (f:Addr) (fd:FuncData) (ps:List Str) (sp:Sp):Prop where
 len:∀ vs H Q E,sp vs H Q E->vs.length=ps.length
 run:∀ (A:Around) (outer:List Env) (s:Shared) (H:Hp) (args:Args) (us:List Value) (vs:List V) (Q:VK) (E:XK),RoomW k A->Env0 P w K mg base A outer s H->BindsTo s fd args (ps.zip us)->Vals vs us->sp vs H Q E ->
  codeAny (model P w) A (.call (.ref f) args) (CR CX0 outer P w H s Q E) s
structure DefOkW (P:Program) (w:World) (K:yg) (mg:Str->Option Value) (base:Heap) (k:Nat) (x:Str) (ps:List Str) (sp:Sp):Prop where
 ex:∃ f fd,FnOkW P w K mg base k f fd ps sp/\mg x=some (.ref f)/\PySem.W.keepIn K (.ref f)=true/\Binds K fd ps []
section
variable {X:Cx} {k:Nat} {f C:Addr} {fd:FuncData} {ps:List Str} {sp:Sp} {x m:Str} {p pos apos:Pos} {e o:Expr} {es:List Expr} {ta:TE} {t:TA}
end
section
variable {P:Program} {w:World} {K:yg} {mg:Str->Option Value} {base:Heap}
end
theorem Inv.laidM {X:Cx} {pins:List (Addr×Obj)} {σ:St} {H H':Hp} {s:Shared} {h':Heap} {t':Nat} (I:Inv X pins σ H s) (k:∀ b u,s.heap.get? b=some u->h'.get? b=some u)
  (old:∀ b,b < s.heap.objs.size->H' b=H b) (new:∀ b u,s.heap.objs.size<=b->H' b=some u->ObjOk X.prog X.w H' h' b u):Inv X pins σ H' { s with heap:=h',toks:=t' }:=by
 have lt:∀ b u,H b=some u->b < s.heap.objs.size:=fun b u e=>XR fun z=>by rw [I.hok.fresh z] at e;cases e
 have up:∀ b u,H b=some u->H' b=some u:=fun b u e=>(old b (lt b u e)).trans e;refine I.step (g':=s.gens) (d':=s.drawn) (ch:=[]) (fun b hb=>by simp at hb) (fun b o _ _ _ e _=>k b o e) (fun b o _ _ _ e _=>⟨o.slots,k b o e⟩) (fun b o _ e n=>(old b (yK e)).trans n)
  (fun b o _ e=>⟨o,k b o e⟩) (fun b xs e=>up b _ e) (fun b _ _ e=>up b _ e) (fun b ps e=>⟨#[],by rw [up b _ e];simp⟩) (fun m ⟨o,es,ep,ho,r⟩=>⟨o,es,ep,k _ o ho,r⟩) (fun b u e=>?_) I.bare
 by_cases hb:s.heap.objs.size<=b
 ·exact new b u hb e
 ·rw [old b (XR hb)] at e;exact (I.hok b u e).stay (fun c v _ q=>k c v q) (fun c q=>up c _ q) fun c xs q=>up c _ q
section
variable {prog:Program} {w:World} {A:Around} {E:Value->Shared->Prop} {s:Shared}
theorem alive_ {a:Addr} {Q:Option Obj->Shared->Prop} (h:Q (s.heap.get? a) s):wpAny (model prog w) A (loadIfAlive a) Q E s:=fun Γ p _=>by
 show Sem.wp _ _ (.loadIfAlive a .pure) _ _ _ _;rw [Sem.wp_loadIfAlive];simpa using h
noncomputable abbrev qfh (h:Heap) (z TI TO:Addr) (f0:Value) (b1:Bool):Prop:=h.get? z=some { cls:=.type "zip",dict:=none,data:=.fields #[f0,.bool b1,.bool false,.ref TI,.ref TO],slots:=#[] }
theorem qfD {z TI TO T:Addr} {b1:Bool} {oT:Obj} {Q:Bool->Shared->Prop} (hz:qfh s.heap z TI TO (rawInt T) b1) (hT:s.heap.get? T=some oT)
  (hQ:∀ h',qfh h' z TI TO (rawInt T) true->Heap.SameBut z s.heap h'->Q false { s with heap:=h' }):wpAny (model prog w) A (Builtin.SmallTypes.ownedTupleIsFree (.ref z)) Q E s:=by
 unfold Builtin.SmallTypes.ownedTupleIsFree;refine yr (xU hz rfl (x:=rawInt T) rfl ?_);show wpAny _ _ (loadIfAlive T>>=_) _ _ _;refine yr (alive_ ?_);rw [hT];show wpAny _ _ (field (.ref z) 1>>=_) _ _ _;refine yr (xU hz rfl (x:=.bool b1) rfl ?_)
 cases b1 with
 | true=>exact yx (hQ _ hz ⟨rfl,fun _ _=>rfl⟩)
 | false =>
  show wpAny _ _ (setField (.ref z) 1 (.bool true)>>=_) _ _ _;exact yr (wpAny_setField_rec hz (by simp) fun h1 e1 k1=>yx (hQ h1 e1 k1))
theorem znx {z TI TO i1 i2 a b T:Addr} {b1:Bool} {oT:Obj} {k1 k2:Nat} {xs ys:Array Value} {x y:Value} {Q:Value->Shared->Prop} (D:ZipApart z TI TO i1 i2 a b)
  (hz:qfh s.heap z TI TO (rawInt T) b1) (hT:s.heap.get? T=some oT) (hTI:IsPair s.heap TI (.ref i1) (.ref i2))
  (h1:s.heap.IsListIter i1 a k1) (h2:s.heap.IsListIter i2 b k2) (hl1:s.heap.IsList a xs) (hl2:s.heap.IsList b ys) (hx:xs[k1]?=some x) (hy:ys[k2]?=some y)
  (hQ:∀ h',qfh h' z TI TO (rawInt T) true->h'.IsListIter i1 a (k1 + 1)->h'.IsListIter i2 b (k2 + 1)->IsPair h' s.heap.objs.size x y->h'.objs.size=s.heap.objs.size + 1 ->
   (∀ c o,c≠z->c≠i1->c≠i2->s.heap.get? c=some o->h'.get? c=some o)->Q (.ref s.heap.objs.size) { s with heap:=h' }) :
  wpAny (model prog w) A (Builtin.«zip.__next__» ⟨[.ref z],[]⟩) (fun fin s'=>∃ v,fin=.done (.ret v)/\Q v s') E s:=by
 show wpAny _ _ (field (.ref z) 2>>=_) _ _ _;refine yr <| xU hz rfl (x:=.bool false) rfl ?_;show wpAny _ _ (field (.ref z) 3>>=_) _ _ _;refine yr <| xU hz rfl (x:=.ref TI) rfl ?_;refine yr <| wpAny_seqItems hTI rfl ?_;show wpAny _ _ (Builtin.SmallTypes.ownedTupleIsFree _>>=_) _ _ _;refine yr <| qfD hz hT fun g1 z1 s1=>?_;simp only [xW,XU];refine yr ?_;rw [<- Array.forIn_toList];simp only [kK,kO];refine yr (yr (Ys ?_));show wpAny _ _ (Builtin.SmallTypes.nextOf (.ref i1)>>=_) _ _ _;refine yr <| XD (h1.extBut s1.extBut D.i1z) (hl1.extBut s1.extBut D.l1z) hx fun g2 p2 s2=>yx (yx ?_);refine yr (yr (Ys ?_));show wpAny _ _ (Builtin.SmallTypes.nextOf (.ref i2)>>=_) _ _ _;refine yr <| XD ((h2.extBut s1.extBut D.i2z).extBut s2.extBut D.i12.symm) ((hl2.extBut s1.extBut D.l2z).extBut s2.extBut D.l2i1) hy fun g3 p3 s3=>yx (yx (yx ?_));refine yr (wpAny_newTuple (yx ⟨_,rfl,?_⟩) (by show 2<=sizeLine;decide));have es:g3.objs.size=s.heap.objs.size:=by rw [s3.1,s2.1,s1.1]
 have kp:∀ c o,c≠z->c≠i1->c≠i2->s.heap.get? c=some o->g3.get? c=some o:=fun c o n1 n2 n3 e=>s3.extBut _ _ n3 (s2.extBut _ _ n2 (s1.extBut _ _ n1 e));rw [show (Value.ref g3.objs.size)=.ref s.heap.objs.size by rw [es]];refine hQ _ (yw _ (s3.extBut _ _ D.i2z.symm (s2.extBut _ _ D.i1z.symm z1))) ((p2.extBut s3.extBut D.i12).at fun o e=>yw _ e) (p3.at fun o e=>yw _ e) ?_ (by rw [xq,es]) fun c o n1 n2 n3 e=>yw _ (kp c o n1 n2 n3 e);rw [<- es];exact yU _ rfl
theorem zne {z TI TO i1 i2 a b T:Addr} {b1:Bool} {oT:Obj} {k1 k2:Nat} {xs ys:Array Value} {Q:Fin->Shared->Prop} (hh:A.handled=none) (D:ZipApart z TI TO i1 i2 a b)
  (hz:qfh s.heap z TI TO (rawInt T) b1) (hT:s.heap.get? T=some oT) (hTI:IsPair s.heap TI (.ref i1) (.ref i2))
  (h1:s.heap.IsListIter i1 a k1) (h2:s.heap.IsListIter i2 b k2) (hl1:s.heap.IsList a xs) (hl2:s.heap.IsList b ys) (hend:xs[k1]?=none\/ys[k2]?=none)
  (hE:∀ h' e,(∀ c o,c≠z->c≠i1->c≠i2->s.heap.get? c=some o->h'.get? c=some o)->(∃ o,h'.get? e=some o/\o.cls=.type "StopIteration")->E (.ref e) { s with heap:=h' }) :
  wpAny (model prog w) A (Builtin.«zip.__next__» ⟨[.ref z],[]⟩) Q E s:=by
 show wpAny _ _ (field (.ref z) 2>>=_) _ _ _;refine yr <| xU hz rfl (x:=.bool false) rfl ?_;show wpAny _ _ (field (.ref z) 3>>=_) _ _ _;refine yr <| xU hz rfl (x:=.ref TI) rfl ?_;refine yr <| wpAny_seqItems hTI rfl ?_;show wpAny _ _ (Builtin.SmallTypes.ownedTupleIsFree _>>=_) _ _ _;refine yr <| qfD hz hT fun g1 z1 s1=>?_;simp only [xW,XU];refine yr ?_;rw [<- Array.forIn_toList];simp only [kK,kO];refine yr (yr (Ys ?_));show wpAny _ _ (Builtin.SmallTypes.nextOf (.ref i1)>>=_) _ _ _
 cases hx:xs[k1]? with
 | none=>exact yr <| wpAny_nextOf_list_end hh (h1.extBut s1.extBut D.i1z) (hl1.extBut s1.extBut D.l1z) hx fun g2 e s2 he=>hE g2 e (fun c o n1 n2 _ q=>s2 _ _ n2 (s1.extBut _ _ n1 q)) he
 | some x =>
  have hy:ys[k2]?=none:=hend.elim (fun z=>by rw [hx] at z;cases z) id;refine yr <| XD (h1.extBut s1.extBut D.i1z) (hl1.extBut s1.extBut D.l1z) hx fun g2 p2 s2=>yx (yx ?_);refine yr (yr (Ys ?_));show wpAny _ _ (Builtin.SmallTypes.nextOf (.ref i2)>>=_) _ _ _;exact yr <| wpAny_nextOf_list_end hh ((h2.extBut s1.extBut D.i2z).extBut s2.extBut D.i12.symm) ((hl2.extBut s1.extBut D.l2z).extBut s2.extBut D.l2i1) hy fun g3 e s3 he=>hE g3 e (fun c o n1 n2 n3 q=>s3 _ _ n3 (s2.extBut _ _ n2 (s1.extBut _ _ n1 q))) he
noncomputable def ZAt (z TI TO N:Nat) (h:Heap):Prop:=IsZip h z TI TO .none\/∃ T b1 o,N<=T/\qfh h z TI TO (rawInt (T:Nat)) b1/\h.get? T=some o
theorem ZAt.typ {z TI TO N:Nat} (h:ZAt z TI TO N s.heap):s.TypeIs (.ref z) "zip":=by
 rcases h with e | ⟨_,_,_,_,e,_⟩<;>exact ⟨_,e,rfl⟩
theorem znx_any {z TI TO i1 i2 a b N:Addr} {k1 k2:Nat} {xs ys:Array Value} {x y:Value} {Q:Option Value->Shared->Prop} (D:ZipApart z TI TO i1 i2 a b) (hN:N<=s.heap.objs.size)
  (hz:ZAt z TI TO N s.heap) (hTI:IsPair s.heap TI (.ref i1) (.ref i2)) (hTO:∃ u v,IsPair s.heap TO u v)
  (h1:s.heap.IsListIter i1 a k1) (h2:s.heap.IsListIter i2 b k2) (hl1:s.heap.IsList a xs) (hl2:s.heap.IsList b ys) (hx:xs[k1]?=some x) (hy:ys[k2]?=some y) (hlt:z < N/\i1 < N/\i2 < N)
  (hQ:∀ h',ZAt z TI TO N h'->(∃ u v,IsPair h' TO u v)->h'.IsListIter i1 a (k1 + 1)->h'.IsListIter i2 b (k2 + 1)->IsPair h' s.heap.objs.size x y->h'.objs.size=s.heap.objs.size + 1 ->
   (∀ c o,c≠z->c≠TO->c≠i1->c≠i2->s.heap.get? c=some o->h'.get? c=some o)->Q (some (.ref s.heap.objs.size)) { s with heap:=h' }) :
  wpAny (model prog w) A (pyNext (.ref z)) Q E s:=by
 obtain ⟨u,v,hTO⟩:=hTO;have typ:=hz.typ;rcases hz with hz | ⟨T,b1,o,hT,hz,ho⟩
 ·refine wpAny_pyNext_zip_item D hz hTI hTO h1 h2 hl1 hl2 hx hy fun g e1 e2 e3 e4 e5 e6 e7=>hQ g (.inr ⟨s.heap.objs.size,false,_,hN,e1,e5⟩) ⟨_,_,e2⟩ e3 e4 e5 e6 e7
 ·unfold pyNext;refine yr (kq (Xx (name:=Str.ofString "__next__") typ X0 (XJ X0 typ F.entry_zip_next (znx D hz ho hTI h1 h2 hl1 hl2 hx hy fun g e1 e3 e4 e5 e6 e7=>yx ?_) (F.args_zip_next_1 _))));exact hQ g (.inr ⟨T,true,o,hT,e1,e7 _ _ (Yh (yj hlt.1 hT)) (Yh (yj hlt.2.1 hT)) (Yh (yj hlt.2.2 hT)) ho⟩) ⟨_,_,e7 _ _ D.TOz D.TOi1 D.TOi2 hTO⟩ e3 e4 e5 e6 fun c q n1 _ n2 n3 e=>e7 c q n1 n2 n3 e
theorem zne_any {z TI TO i1 i2 a b N:Addr} {k1 k2:Nat} {xs ys:Array Value} {Q:Option Value->Shared->Prop} (hh:A.handled=none) (D:ZipApart z TI TO i1 i2 a b)
  (hz:ZAt z TI TO N s.heap) (hTI:IsPair s.heap TI (.ref i1) (.ref i2)) (hTO:∃ u v,IsPair s.heap TO u v)
  (h1:s.heap.IsListIter i1 a k1) (h2:s.heap.IsListIter i2 b k2) (hl1:s.heap.IsList a xs) (hl2:s.heap.IsList b ys) (hend:xs[k1]?=none\/ys[k2]?=none)
  (hQ:∀ h',(∀ c o,c≠z->c≠TO->c≠i1->c≠i2->s.heap.get? c=some o->h'.get? c=some o)->Q none { s with heap:=h' }):wpAny (model prog w) A (pyNext (.ref z)) Q E s:=by
 obtain ⟨u,v,hTO⟩:=hTO;have typ:=hz.typ;rcases hz with hz | ⟨T,b1,o,hT,hz,ho⟩
 ·exact wpAny_pyNext_zip_end hh D hz hTI hTO h1 h2 hl1 hl2 hend hQ
 ·unfold pyNext;refine yr (kq (Xx (name:=Str.ofString "__next__") typ X0 (XJ X0 typ F.entry_zip_next (zne hh D hz ho hTI h1 h2 hl1 hl2 hend fun g e k he=>?_) (F.args_zip_next_1 _))));obtain ⟨q,hq,hc⟩:=he;refine yr (wpAny_isInstance (T:="StopIteration") (b:=true) ⟨q,hq,hc⟩ isSubtype_stop ?_);exact yx (hQ _ fun c o n1 _ n2 n3 e=>k c o n1 n2 n3 e)
end
structure LZ (z TI TO i1 i2 a b S N:Nat) (xs ys:Array Value) (h0:Heap) (i:Nat) (acc:Array Value) (c:Nat) (h:Heap):Prop where
 zp:ZAt z TI TO N h
 ti:IsPair h TI (.ref i1) (.ref i2)
 tO:∃ u v,IsPair h TO u v
 j1:h.IsListIter i1 a i
 j2:h.IsListIter i2 b i
 la:h.IsList a xs
 lb:h.IsList b ys
 ls:h.get? S=some { cls:=.type "list",dict:=none,data:=.seq acc c,slots:=#[] }
 sz:N<=h.objs.size
 len:acc.size=i
 its:∀ (j:Nat) v,acc[j]?=some v->∃ t x y,v=.ref t/\N<=t/\IsPair h t x y/\xs[j]?=some x/\ys[j]?=some y
 nd:∀ (j k:Nat) v,acc[j]?=some v->acc[k]?=some v->j=k
 kp:∀ q o,q < N->q≠z->q≠TO->q≠i1->q≠i2->q≠S->h0.get? q=some o->h.get? q=some o
structure LE (z TO i1 i2 S N:Nat) (xs ys:Array Value) (h0:Heap) (n:Nat) (acc:Array Value) (c:Nat) (h:Heap):Prop where
 ls:h.get? S=some { cls:=.type "list",dict:=none,data:=.seq acc c,slots:=#[] }
 len:acc.size=n
 its:∀ (j:Nat) v,acc[j]?=some v->∃ t x y,v=.ref t/\N<=t/\IsPair h t x y/\xs[j]?=some x/\ys[j]?=some y
 nd:∀ (j k:Nat) v,acc[j]?=some v->acc[k]?=some v->j=k
 kp:∀ q o,q < N->q≠z->q≠TO->q≠i1->q≠i2->q≠S->h0.get? q=some o->h.get? q=some o
structure LA (z TI TO i1 i2 a b S N:Nat):Prop where
 D:ZipApart z TI TO i1 i2 a b
 lt:z < S/\TI < S/\TO < S/\i1 < S/\i2 < S/\a < S/\b < S
 S:S < N
theorem LZ.at {z TI TO i1 i2 a b S N:Nat} {xs ys:Array Value} {h0 h h':Heap} {i c c':Nat} {acc acc':Array Value} (L:LA z TI TO i1 i2 a b S N) (x:LZ z TI TO i1 i2 a b S N xs ys h0 i acc c h)
  (k:Heap.SameBut S h h') (ls:h'.get? S=some { cls:=.type "list",dict:=none,data:=.seq acc' c',slots:=#[] }) (len:acc'.size=i) (its:∀ (j:Nat) v,acc'[j]?=some v->∃ t x y,v=.ref t/\N<=t/\IsPair h t x y/\xs[j]?=some x/\ys[j]?=some y) (nd:∀ (j k:Nat) v,acc'[j]?=some v->acc'[k]?=some v->j=k):LZ z TI TO i1 i2 a b S N xs ys h0 i acc' c' h':=by
 obtain ⟨l1,l2,l3,l4,l5,l6,l7⟩:=L.lt;have hS:=L.S;have kk:∀ {q o},q≠S->h.get? q=some o->h'.get? q=some o:=fun n e=>k.extBut _ _ n e;refine ⟨?_,kk (yN l2) x.ti,?_,x.j1.at fun o e=>kk (yN l4) e,x.j2.at fun o e=>kk (yN l5) e,x.la.extBut k.extBut (yN l6),x.lb.extBut k.extBut (yN l7),ls,by rw [k.1];exact x.sz,len,fun j v e=>?_,nd,fun q o a1 a2 a3 a4 a5 a6 e=>kk a6 (x.kp q o a1 a2 a3 a4 a5 a6 e)⟩
 ·rcases x.zp with e | ⟨T,b1,o,hT,e,eo⟩
  ·exact .inl (kk (yN l1) e)
  ·exact .inr ⟨T,b1,o,hT,kk (yN l1) e,kk (Yh (yj hS hT)) eo⟩
 ·obtain ⟨u,v,e⟩:=x.tO;exact ⟨u,v,kk (yN l3) e⟩
 ·obtain ⟨t,u,v,e1,e2,e3,e4⟩:=its j v e;exact ⟨t,u,v,e1,e2,kk (Yh (yj hS e2)) e3,e4⟩
section
variable {prog:Program} {w:World} {A:Around} {R:Result->Shared->Prop} {z TI TO i1 i2 a b S N:Nat} {xs ys:Array Value} {h0:Heap}
theorem zloop (hh:A.handled=none) (L:LA z TI TO i1 i2 a b S N) (hn:min xs.size ys.size<=2 ^ 24) (res:Value):∀ (k i:Nat) (s:Shared) (acc:Array Value) (c:Nat),min xs.size ys.size - i=k->i<=min xs.size ys.size->LZ z TI TO i1 i2 a b S N xs ys h0 i acc c s.heap ->
  (∀ h' acc' c',LE z TO i1 i2 S N xs ys h0 (min xs.size ys.size) acc' c' h'->R (.ok (.ret res)) { s with heap:=h' })->codeAny (model prog w) A (.builtin "list.extend.loop" ⟨[.ref S,.ref z,res],[]⟩) R s:=by
 have hS:=L.S;obtain ⟨l1,l2,l3,l4,l5,l6,l7⟩:=L.lt;have ap:∀ {t q:Nat},N<=t->q < S->t≠q:=fun h1 h2=>by omega
 intro k
 induction k with
 | zero =>
  intro i s acc c hk hi x hR;refine codeAny_builtin F.entry_extend_loop ?_;rw [Around.under_plainId Xo _];show wpAny _ A.in1 (pyNext _>>=_) _ _ s
  have he:xs[i]?=none\/ys[i]?=none:=by
   rcases Nat.le_total xs.size ys.size with q | q
   ·exact .inl (xl (by omega))
   ·exact .inr (xl (by omega))
  refine yr (zne_any hh L.D x.zp x.ti x.tO x.j1 x.j2 x.la x.lb he fun h' kk=>yx (hR h' acc c ⟨?_,by rw [x.len];omega,fun j v e=>?_,x.nd,fun q o a1 a2 a3 a4 a5 a6 e=>kk q o a2 a3 a4 a5 (x.kp q o a1 a2 a3 a4 a5 a6 e)⟩))
  ·exact kk S _ (Yh l1) (Yh l3) (Yh l4) (Yh l5) x.ls
  ·obtain ⟨t,u,v,e1,e2,e3,e4⟩:=x.its j v e;exact ⟨t,u,v,e1,e2,kk t _ (ap e2 l1) (ap e2 l3) (ap e2 l4) (ap e2 l5) e3,e4⟩
 | succ k ih =>
  intro i s acc c hk hi x hR;refine codeAny_builtin F.entry_extend_loop ?_;rw [Around.under_plainId Xo _];show wpAny _ A.in1 (pyNext _>>=_) _ _ s;obtain ⟨u,hu⟩:∃ u,xs[i]?=some u:=⟨_,xu (by omega)⟩;obtain ⟨v,hv⟩:∃ v,ys[i]?=some v:=⟨_,xu (by omega)⟩;refine yr (znx_any L.D x.sz x.zp x.ti x.tO x.j1 x.j2 x.la x.lb hu hv ⟨XB l1 hS,XB l4 hS,XB l5 hS⟩ fun h1 z1 to1 e1 e2 eP esz kk=>?_);have hS1:=kk S _ (Yh l1) (Yh l3) (Yh l4) (Yh l5) x.ls;show wpAny _ A.in1 (updateSeq S (·.push (.ref s.heap.objs.size))>>=_) _ _ _;have hlen:=x.len;have hN:=x.sz
  have nin:∀ j:Nat,acc[j]?≠some (.ref s.heap.objs.size):=fun j e=>by
   obtain ⟨t,u',w',q1,q2,q3,_⟩:=x.its j _ e;cases q1;exact absurd (yK q3) (Yx _)
  have ndp:∀ (j k:Nat) v',(acc.push (.ref s.heap.objs.size))[j]?=some v'->(acc.push (.ref s.heap.objs.size))[k]?=some v'->j=k:=fun j k v' e1 e2=>by
   rw [Array.getElem?_push] at e1 e2;split at e1<;>split at e2
   ·rename_i a1 a2;rw [a1,a2]
   ·cases e1;exact absurd e2 (nin k)
   ·cases e2;exact absurd e1 (nin j)
   ·exact x.nd j k v' e1 e2
  obtain ⟨c',upS⟩:∃ c',(h1.update S (Obj.mapSeq (·.push (.ref s.heap.objs.size)))).get? S=some { cls:=.type "list",dict:=none,data:=.seq (acc.push (.ref s.heap.objs.size)) c',slots:=#[] }:=⟨_,YU (Obj.mapSeq (·.push (.ref s.heap.objs.size))) hS1 rfl⟩;refine yr (X1 hS1 rfl (yx ⟨plainId_quiet Xo _,ih (i + 1) _ (acc.push (.ref s.heap.objs.size)) c' (by omega) (by omega) ?_ hR⟩) ?_ ?_)
  ·have sb:Heap.SameBut S h1 (h1.update S (Obj.mapSeq (·.push (.ref s.heap.objs.size)))):=Xp ..;have k2:∀ {q o},q≠S->h1.get? q=some o->(h1.update S (Obj.mapSeq (·.push (.ref s.heap.objs.size)))).get? q=some o:=fun n e=>sb.extBut _ _ n e;refine ⟨?_,k2 (yN l2) (kk _ _ L.D.TIz L.D.TITO L.D.TIi1 L.D.TIi2 x.ti),?_,e1.at fun o e=>k2 (yN l4) e,e2.at fun o e=>k2 (yN l5) e,?_,?_,upS,by rw [sb.1,esz];omega,by rw [Array.size_push,hlen],fun j v' e=>?_,ndp,fun q o a1 a2 a3 a4 a5 a6 e=>k2 a6 (kk q o a2 a3 a4 a5 (x.kp q o a1 a2 a3 a4 a5 a6 e))⟩
   ·rcases z1 with e | ⟨T,b1,o,hT,e,eo⟩
    ·exact .inl (k2 (yN l1) e)
    ·exact .inr ⟨T,b1,o,hT,k2 (yN l1) e,k2 (Yh (yj hS hT)) eo⟩
   ·obtain ⟨u',v',e⟩:=to1;exact ⟨u',v',k2 (yN l3) e⟩
   ·obtain ⟨o,e,d⟩:=x.la;exact ⟨o,k2 (yN l6) (kk _ _ L.D.l1z L.D.l1TO L.D.l1i1 L.D.l1i2 e),d⟩
   ·obtain ⟨o,e,d⟩:=x.lb;exact ⟨o,k2 (yN l7) (kk _ _ L.D.l2z L.D.l2TO L.D.l2i1 L.D.l2i2 e),d⟩
   ·rw [Array.getElem?_push] at e;split at e
    ·rename_i ej
     cases e;rw [ej,hlen];exact ⟨_,u,v,rfl,hN,k2 (Yh (yj hS hN)) eP,hu,hv⟩
    ·obtain ⟨t,u',w',q1,q2,q3,q4⟩:=x.its j v' e;exact ⟨t,u',w',q1,q2,k2 (Yh (yj hS q2)) (kk t _ (ap q2 l1) (ap q2 l3) (ap q2 l4) (ap q2 l5) q3),q4⟩
  ·rw [hlen,YC];omega
  ·show (acc.push _).size<=sizeLine + 1;rw [Array.size_push,hlen,YC];omega
theorem zip_len0:typeLookup (.type "zip") "__len__"=pure none:=by rw [typeLookup_type,builtinLookup_eq_fast];kernel_rfl
theorem zip_hint0:typeLookup (.type "zip") "__length_hint__"=pure none:=by rw [typeLookup_type,builtinLookup_eq_fast];kernel_rfl
theorem zext {s:Shared} {c0:Nat} (hh:A.handled=none) (L:LA z TI TO i1 i2 a b S N) (hn:min xs.size ys.size<=2 ^ 24) (res:Value) (hz:IsZip s.heap z TI TO .none) (x:LZ z TI TO i1 i2 a b S N xs ys h0 0 #[] c0 s.heap)
  (hR:∀ h' acc' c',LE z TO i1 i2 S N xs ys h0 (min xs.size ys.size) acc' c' h'->R (.ok (.ret res)) { s with heap:=h' }) :
  wpAny (model prog w) A.in1 (Builtin.List.listExtendWith (.ref S) (.ref z) res) (fun fin s'=>match fin with | .done f=>R (.ok f) s' | .again c'=>c'.quiet=true/\codeAny (model prog w) A c' R s') (fun e s'=>R (.error e) s') s:=by
 obtain ⟨l1,_⟩:=L.lt;have typ:s.TypeIs (.ref z) "zip":=⟨_,hz,rfl⟩;unfold Builtin.List.listExtendWith;refine yr <| wpAny_typeOf typ ?_;have q1:Builtin.List.listSameRef (.ref S) (.ref z)=false:=by simp [Builtin.List.listSameRef,Yh l1]
 have q2:(Value.type "zip"==.type "list")=false/\(Value.type "zip"==.type "tuple")=false:=by decide
 simp only [q1,q2.1,q2.2,ko,xW,XU];refine yr <| kC hz <| yr <| Ys ?_;unfold Builtin.List.listLengthHint;refine yr <| wpAny_specialOf typ zip_len0 ?_;show wpAny _ _ (specialOf (Value.ref z) (Str.ofString "__length_hint__")>>=_) _ _ _;refine yr <| wpAny_specialOf typ zip_hint0 <| yx ?_;show wpAny _ _ (rule "list.extend.makes-room">>=fun _=>Builtin.List.listTouch (.ref S)>>=fun _=>again (.builtin "list.extend.loop" ⟨[.ref S,.ref z,res],[]⟩)) _ _ _;refine yr <| wpAny_rule <| yr ?_;show wpAny _ _ (updateSeq S (·.push .none)>>=fun _=>updateSeq S (·.pop)) _ _ _;refine yr <| X1 x.ls rfl ?_;have e2:=YU (Obj.mapSeq (·.push Value.none)) x.ls rfl;refine X1 (hz:=by seq_fits) e2 rfl ?_;have e3:=YU (Obj.mapSeq (·.pop)) e2 rfl
 have sb:Heap.SameBut S s.heap ((s.heap.update S (Obj.mapSeq (·.push Value.none))).update S (Obj.mapSeq (·.pop))):=by
  have k1:Heap.SameBut S s.heap (s.heap.update S (Obj.mapSeq (·.push Value.none))):=Xp ..;have k2:Heap.SameBut S (s.heap.update S (Obj.mapSeq (·.push Value.none))) ((s.heap.update S (Obj.mapSeq (·.push Value.none))).update S (Obj.mapSeq (·.pop))):=Xp ..;exact ⟨k2.1.trans k1.1,fun q n=>(k2.2 q n).trans (k1.2 q n)⟩
 exact yx ⟨plainId_quiet Xo _,zloop hh L hn res _ 0 _ #[] _ rfl (YK _) (x.at L sb e3 rfl (fun j v e=>by simp at e) fun j k v e=>by simp at e) hR⟩
theorem zinit {s:Shared} {c0:Nat} (hh:A.handled=none) (L:LA z TI TO i1 i2 a b S N) (hn:min xs.size ys.size<=2 ^ 24) (hz:IsZip s.heap z TI TO .none) (x:LZ z TI TO i1 i2 a b S N xs ys h0 0 #[] c0 s.heap)
  (hR:∀ h' acc' c',LE z TO i1 i2 S N xs ys h0 (min xs.size ys.size) acc' c' h'->R (.ok (.ret .none)) { s with heap:=h' }) :
  wpAny (model prog w) A.in1 (Builtin.«list.__init__» ⟨[.ref S,.ref z],[]⟩) (fun fin s'=>match fin with | .done f=>R (.ok f) s' | .again c'=>c'.quiet=true/\codeAny (model prog w) A c' R s') (fun e s'=>R (.error e) s') s:=by
 obtain ⟨l1,_⟩:=L.lt;show wpAny _ _ (do let old <- Builtin.List.listItems (.ref S);Builtin.List.listUpdate (.ref S) (fun _=>#[]);letGo old.toList.reverse;Builtin.List.listExtendWith (.ref S) (.ref z) .none) _ _ s;refine yr ?_;unfold Builtin.List.listItems;refine yr <| wpAny_seqItems x.ls rfl <| yx ?_;show wpAny _ _ (updateSeq S (fun _=>#[])>>=fun _=>letGo _>>=fun _=>Builtin.List.listExtendWith (.ref S) (.ref z) .none) _ _ s;refine yr <| X1 x.ls rfl ?_;have e2:=YU (Obj.mapSeq (fun _=>(#[]:Array Value))) x.ls rfl;have sb:Heap.SameBut S s.heap (s.heap.update S (Obj.mapSeq (fun _=>(#[]:Array Value)))):=Xp ..;refine yr <| wpAny_letGo ?_;exact zext hh L hn .none (sb.extBut _ _ (yN l1) hz) (x.at L sb e2 rfl (fun j v e=>by simp at e) fun j k v e=>by simp at e) hR
end
section
variable {prog:Program} {w:World} {A:Around} {E:Value->Shared->Prop} {s:Shared}
theorem call_list_zip {z TI TO i1 i2 a b:Nat} {xs ys:Array Value} {Q:Value->Shared->Prop} (hh:A.handled=none) (D:ZipApart z TI TO i1 i2 a b) (hn:min xs.size ys.size<=2 ^ 24) (hz:IsZip s.heap z TI TO .none) (hTI:IsPair s.heap TI (.ref i1) (.ref i2)) (hTO:∃ u v,IsPair s.heap TO u v)
  (h1:s.heap.IsListIter i1 a 0) (h2:s.heap.IsListIter i2 b 0) (hl1:s.heap.IsList a xs) (hl2:s.heap.IsList b ys)
  (hQ:∀ h' acc' c',LE z TO i1 i2 s.heap.objs.size (s.heap.objs.size + 1) xs ys s.heap (min xs.size ys.size) acc' c' h'->Q (.ref s.heap.objs.size) { s with heap:=h' }):wpAny (model prog w) A (call (.type "list") [.ref z]) Q E s:=by
 refine callType_codes (Q₁:=fun obj s₁=>obj=.ref s.heap.objs.size/\s₁={ s with heap:=s.heap.push { cls:=.type "list",data:=.seq #[] } }) F.called_list (F.typeCall_list_1 _) F.entry_list_init (code_list_new _ ⟨rfl,rfl⟩) fun obj s₁ h₁=>?_;obtain ⟨rfl,rfl⟩:=h₁;have hS:(s.heap.push { cls:=.type "list",data:=.seq #[] }).get? s.heap.objs.size=some { cls:=.type "list",data:=.seq #[] }:=yU _ rfl;have up:∀ {q o},s.heap.get? q=some o->(s.heap.push { cls:=.type "list",data:=.seq #[] }).get? q=some o:=fun e=>yw _ e;have lt:∀ {q o},s.heap.get? q=some o->q < s.heap.objs.size:=fun e=>yK e;obtain ⟨u,v,hTO⟩:=hTO
 have L:LA z TI TO i1 i2 a b s.heap.objs.size (s.heap.objs.size + 1):=by
  refine ⟨D,⟨lt hz,lt hTI,lt hTO,?_,?_,?_,?_⟩,Xk _⟩
  ·obtain ⟨_,e,_⟩:=h1;exact lt e
  ·obtain ⟨_,e,_⟩:=h2;exact lt e
  ·obtain ⟨_,e,_⟩:=hl1;exact lt e
  ·obtain ⟨_,e,_⟩:=hl2;exact lt e
 have x:LZ z TI TO i1 i2 a b s.heap.objs.size (s.heap.objs.size + 1) xs ys s.heap 0 #[] 0 (s.heap.push { cls:=.type "list",data:=.seq #[] }):=by
  refine ⟨.inl (up hz),up hTI,⟨u,v,up hTO⟩,h1.at fun o e=>up e,h2.at fun o e=>up e,?_,?_,hS,by rw [xq];exact yh _,rfl,fun j v e=>by simp at e,fun j k v e=>by simp at e,fun q o _ _ _ _ _ _ e=>up e⟩
  ·obtain ⟨o,e,d⟩:=hl1;exact ⟨o,up e,d⟩
  ·obtain ⟨o,e,d⟩:=hl2;exact ⟨o,up e,d⟩
 exact ⟨⟨_,hS,rfl⟩,F.args_list_init_2 _ _,zinit (A:=A.in1) hh L hn (up hz) x fun h' acc' c' hE=>⟨rfl,hQ h' acc' c' hE⟩⟩
end
structure Zl (H H':Hp) (l:Addr) (ts:List Addr) (xs ys:List V):Prop where
 sm:L2.Same H H'
 fl:H l=none
 ls:H' l=some (.lst (ts.map V.ref))
 len:ts.length=min xs.length ys.length
 tp:∀ (j:Nat) t,ts[j]?=some t->H t=none/\∃ x y,xs[j]?=some x/\ys[j]?=some y/\H' t=some (.tup [x,y])
theorem qfE (H:Hp):∀ (ts:List Addr) (xs ys:List V),ts.Nodup->ts.length<=xs.length->ts.length<=ys.length->∃ G:Hp,(∀ (j:Nat) t x y,ts[j]?=some t->xs[j]?=some x->ys[j]?=some y->G t=some (.tup [x,y]))/\∀ q,q∉ts->G q=H q
 | [],_,_,_,_,_=>⟨H,fun j t x y e=>by simp at e,fun _ _=>rfl⟩
 | t::ts,[],_,_,h,_=>by simp at h
 | t::ts,_::_,[],_,_,h=>by simp at h
 | t::ts,x::xs,y::ys,nd,h1,h2=>by
  obtain ⟨n1,n2⟩:=yo.mp nd;obtain ⟨G,g1,g2⟩:=qfE H ts xs ys n2 (by simpa using h1) (by simpa using h2);refine ⟨upd G t (.tup [x,y]),fun j t' x' y' e1 e2 e3=>?_,fun q hq=>?_⟩
  ·cases j with
   | zero=>simp at e1 e2 e3;subst e1 e2 e3;exact qb
   | succ j =>
    have e1':ts[j]?=some t':=by simpa using e1
    rw [qf fun z=>n1 (by rw [<- z];exact ye e1')];exact g1 j t' x' y' e1' (by simpa using e2) (by simpa using e3)
  ·rw [qf fun z=>hq (by rw [z];exact yZ)];exact g2 q fun z=>hq (yJ _ z)
noncomputable def refN:Value->Nat
 | .ref a=>a
 | _=>0
noncomputable def tLZ (K:yg) (ta:TA):TE:=fun σ H Q=>ta σ H fun vs H1=>∃ a b xs ys,vs=[.ref a,.ref b]/\SqL K H1 a xs/\SqL K H1 b ys/\xs.length<=1000/\∀ l ts H',Zl H1 H' l ts xs ys->Q (.ref l) H'
theorem vLZ {K:yg} {ta:TA} {σ:St} {H:Hp} {Q:VK} (h:ta σ H fun vs H1=>∃ a b xs ys,vs=[.ref a,.ref b]/\SqL K H1 a xs/\SqL K H1 b ys/\xs.length<=1000/\∀ l ts H',Zl H1 H' l ts xs ys->Q (.ref l) H'):tLZ K ta σ H Q:=h
theorem qc6 {X:Cx} {K:yg} {a b:Expr} {ta:TA} {p p2 pos pos2:Pos} (hK:X.K=K) (hc:X.calm=true) (hg:Gl X "list") (hg2:Gl X "zip") (hm:X.mg "list"=none) (hm2:X.mg "zip"=none) (ha:PA X [a,b] ta) (hs:starEach [a,b] X.env=[(false,eval a X.env),(false,eval b X.env)]:=by rfl) (hs2:starEach [b] X.env=[(false,eval b X.env)]:=by rfl)
  (he:starEach [.Call (.Name "zip" p2) [a,b] [] pos2] X.env=[(false,eval (.Call (.Name "zip" p2) [a,b] [] pos2) X.env)]:=by rfl):PE X (.Call (.Name "list" p) [.Call (.Name "zip" p2) [a,b] [] pos2] [] pos) (tLZ K ta):=by
 subst hK;intro pins s σ H Q I h;refine Call_ (qaw I hg hm Xa (Yz (T:="list") ?_ he rfl));rw [he];show wpAny _ _ (spliced ((false,eval (.Call (.Name "zip" p2) [a,b] [] pos2) X.env)::[])) _ _ s;refine kc ?_;refine Call_ (qaw I hg2 hm2 qdz (Yz (thn (ha pos2 pins s σ H _ I h) fun us s1 ⟨vs,H1,I1,r1,q1⟩=>?_) (by rw [hs,hs2]) (by rw [hs2];rfl)));obtain ⟨a,b,xs,ys,e,hq,hq2,hx,q⟩:=q1;subst e
 cases r1 with
 | cons r rr =>
  cases rr with
  | cons r2 rr =>
   cases rr;cases r;cases r2;obtain ⟨its,rv,pl,_⟩:=I1.list hq;obtain ⟨its2,rv2,pl2,_⟩:=I1.list hq2;have lta:a < s1.heap.objs.size:=by obtain ⟨_,e,_⟩:=pl.isList;exact yK e
   have ltb:b < s1.heap.objs.size:=by obtain ⟨_,e,_⟩:=pl2.isList;exact yK e
   have l1:=rv.length;have l2:=rv2.length;refine call_zip_2 pl.isList pl2.isList fun h1 hz hTI hTO hi1 hi2 hsz hk=>kh ?_;have la:h1.IsList a its.toArray:=by obtain ⟨o,e,d⟩:=pl.isList;exact ⟨o,hk _ _ e,d⟩
   have lb:h1.IsList b its2.toArray:=by obtain ⟨o,e,d⟩:=pl2.isList;exact ⟨o,hk _ _ e,d⟩
   refine call_list_zip (I1.ok.hd hc) (PySem.W.ktu_apart _ _ _ lta ltb) (by simp only [yv];omega) hz hTI ⟨_,_,hTO⟩ hi1 hi2 la lb fun h2 acc c L=>?_;have L:LE (s1.heap.objs.size + 4) (s1.heap.objs.size + 3) s1.heap.objs.size (s1.heap.objs.size + 1) h1.objs.size (h1.objs.size + 1) its.toArray its2.toArray h1 (min its.toArray.size its2.toArray.size) acc c h2:=L;have hln:acc.size=min xs.length ys.length:=by rw [L.len,l1,l2,yv,yv]
   obtain ⟨ts,hts⟩:∃ ts,ts=acc.toList.map refN:=⟨_,rfl⟩;have tlen:ts.length=min xs.length ys.length:=by rw [hts,ya,xH,hln]
   have tj:∀ (j:Nat) t,ts[j]?=some t->acc[j]?=some (.ref t)/\h1.objs.size + 1<=t/\∃ x y,xs[j]?=some x/\ys[j]?=some y/\∃ u v,RelV x u/\RelV y v/\IsPair h2 t u v:=fun j t e=>by
    rw [hts,yd,xt] at e;obtain ⟨v,ev,et⟩:=yn.mp e;obtain ⟨t',u1,u2,q1,q2,q3,q4,q5⟩:=L.its j v ev;subst q1;have et':t'=t:=et;subst et';have hj:j < acc.size:=(Array.getElem?_eq_some_iff.mp ev).1;obtain ⟨x,hx'⟩:∃ x,xs[j]?=some x:=⟨_,yb (by omega)⟩;obtain ⟨y,hy'⟩:∃ y,ys[j]?=some y:=⟨_,yb (by omega)⟩;obtain ⟨a1,ea1,ra1⟩:=rv.get hx';obtain ⟨a2,ea2,ra2⟩:=rv2.get hy';have b1:a1=u1:=by rw [List.getElem?_toArray,ea1] at q4;cases q4;rfl
    have b2:a2=u2:=by rw [List.getElem?_toArray,ea2] at q5;cases q5;rfl
    subst b1 b2;exact ⟨ev,q2,x,y,hx',hy',a1,a2,ra1,ra2,q3⟩
   have nd:ts.Nodup:=by
    refine xv.mpr fun i j hi hj hij e=>?_;have e1:=(tj i ts[i] (yb hi)).1;have e2:=(tj j ts[j] (yb hj)).1;rw [e] at e1;exact absurd (L.nd i j _ e1 e2) (yN hij)
   have mem:∀ t∈ts,h1.objs.size + 1<=t:=fun t ht=>by
    obtain ⟨j,e⟩:=Xb.mp ht;exact (tj j t e).2.1
   obtain ⟨G,g1,g2⟩:=qfE H1 ts xs ys nd (by omega) (by omega)
   have old:∀ q,q < s1.heap.objs.size->upd G h1.objs.size (.lst (ts.map V.ref)) q=H1 q:=fun q hq=>by
    rw [qf (yN (by omega))];exact g2 q fun z=>by have:=mem q z;omega
   have tl:∀ t∈ts,t≠h1.objs.size:=fun t ht=>by have:=mem t ht;exact Yh this
   refine ⟨.ref _,_,I1.laidM (t':=s1.toks) (H':=upd G h1.objs.size (.lst (ts.map V.ref))) (fun b u e=>?_) old fun b u hb e=>?_,rfl,q _ ts _ ⟨fun b o e=>?_,I1.hok.fresh (by show (s1.heap.objs.size:Nat)<=h1.objs.size;omega),qb,tlen,fun j t e=>?_⟩⟩
   ·have lb:∀ m:Nat,s1.heap.objs.size<=m->b < m:=fun m hm=>yj (yK e) hm;exact L.kp b u (lb _ (by omega)) (yN (lb _ (by omega))) (yN (lb _ (by omega))) (yN (lb _ (by omega))) (yN (lb _ (by omega))) (yN (lb _ (by omega))) (hk b u e)
   ·by_cases hl:b=h1.objs.size
    ·subst hl;rw [qb] at e;cases e;refine ⟨by rw [ya,tlen,YC];omega,acc.toList,c,qaf (by rw [ya,tlen];exact hln.symm) fun j y u e1 e2=>?_,by rw [Array.toArray_toList];exact L.ls⟩;rw [yd] at e1;obtain ⟨t,et,ey⟩:=yn.mp e1;subst ey;rw [xt,(tj j t et).1] at e2;cases e2;rfl
    ·rw [qf hl] at e;by_cases hm:b∈ts
     ·obtain ⟨j,ej⟩:=Xb.mp hm;obtain ⟨_,_,x,y,ex,ey,u1,u2,r1,r2,ep⟩:=tj j b ej;rw [g1 j b x y ej ex ey] at e;cases e;exact ⟨by show 2<=sizeLine;decide,[u1,u2],.cons r1 (.cons r2 .nil),⟨_,ep,rfl,_,rfl⟩⟩
     ·rw [g2 b hm,I1.hok.fresh hb] at e;cases e
   ·rw [old b (XR fun z=>by rw [I1.hok.fresh z] at e;cases e)];exact e
   ·obtain ⟨_,e2,x,y,ex,ey,_⟩:=tj j t e;refine ⟨I1.hok.fresh (by omega),x,y,ex,ey,?_⟩;rw [qf (tl t (ye e))];exact g1 j t x y e ex ey
section
variable {X:Cx}
inductive rAny (K:yg) (xs:List V) (H:Hp) (Q:VK):Prop|mk (p:Addr) (bs:List Bool) (_:xs=[.ref p]) (_:SqL K H p (bs.map V.bl)) (_:Q (.bl (bs.any id)) H)
theorem call_any (hc:X.calm=true):zL X (.builtin "any") (rAny X.K):=by
 intro pins s σ H xs us Q I r h;obtain ⟨p,bs,rfl,hp,q⟩:=h;obtain ⟨u,rfl,ru⟩:=qbZ r;cases ru;obtain ⟨its,rv,pl,hz⟩:=I.list hp;have e:=qb1 rv;subst e;have hh:X.A.in1.handled=none:=I.ok.hd hc;refine call_any_walk (XC pl.isList ?_)
 have hne:p≠s.heap.objs.size:=by
  obtain ⟨o,ho,_⟩:=pl.isList;exact yN (yK ho)
 refine ⟨s.heap.objs.size,_,_,_,_,_,fun i=>(bs[i]?).getD false,rfl,Walks.list hh s.heap.objs.size p hne (bs.map Value.bool).toArray,⟨⟨_,yU _ rfl,rfl,rfl⟩,pl.isList.at fun o e=>yw _ e⟩,fun i v s Q E hv hq=>?_,fun h' tk hk=>?_⟩
 ·have hv':(bs.map Value.bool)[i]?=some v:=by simpa using hv
  rw [yd] at hv'
  cases e:bs[i]? with
  | none=>rw [e] at hv';cases hv'
  | some b =>
   rw [e] at hv';cases hv';have hq':Q ((bs[i]?).getD false) s:=hq;rw [e] at hq';exact yx hq'
 ·have e:((List.range (bs.map Value.bool).toArray.size).any fun i=>(bs[i]?).getD false)=bs.any id:=by
   rw [yv,ya]
   have key:∀ bs:List Bool,((List.range bs.length).any fun i=>(bs[i]?).getD false)=bs.any id:=by
    intro bs
    induction bs with
    | nil=>rfl
    | cons b r ih =>
     rw [yA,List.range_succ_eq_map,x6,kU,x6,<- ih];rfl
   exact key bs
  rw [e];refine ⟨.bl _,H,?_,rfl,q⟩;have I1:Inv X pins σ H { s with heap:=s.heap.push { cls:=.type "list_iterator",data:=.fields #[.ref p,.int 0 0] } }:=I.kept (t':=s.toks) fun b o e=>yw _ e;have nf:=I.fpOk (b:=s.heap.objs.size) (yh _) (I.hok.fresh (yh _));exact I1.turned (it:=s.heap.objs.size) (h':=h') (t':=tk) (fun b o hb e=>hk b o (by simpa using hb) e) nf.1 nf.2.1 nf.2.2.2.1 nf.2.2.2.2.1 nf.2.2.2.2.2
end
theorem k_any {X:Cx} {K:yg} (hK:X.K=K) (hc:X.calm=true):zL X (.builtin "any") (rAny K):=by subst hK;exact call_any hc
end L2
namespace K44
open PySem L2 PyProof.Rows
variable {A:Str->Str->Prop} {E:XK} {G H H' H0 H1 H2:Hp} {K:W.Frag} {Pd:Str->Prop} {S S':FS} {a b c m s t u v y z:Str} {ab:Str×Str} {bar dn l' l1 l2 m1 rs rv rw rz ss:List Str} {cw dx l p x:Addr} {d lo ol:V} {first i j n r ri:Nat} {g:Str->Option Str} {gs ms ns:List Nat} {kps qs tps:List (Str×Str)} {kvs:List (Key×V)} {o:HO} {q q':Nat×Nat} {ts us:List Addr} {xs ys:List V} {zs:List (Addr×(Nat×Nat))} {α β:Type}
theorem Sr (H:Hp):L2.Same H H:=L2.Same.refl H
theorem jP {k:Nat} {A:Around} (hr:Room k A):A.units + 100 < cLine:=by have:=hr.un;omega
theorem hmR {k:Nat} {A:Around} (hr:Room k A) (h:j<=k:=by decide):Room j A:=hr.mono h
local macro_rules | `(tactic| walk_at "w")=>`(tactic| first
 | with_reducible refine vSeq ?_ | with_reducible refine vAsg ?_ | with_reducible refine vAsgS ?_ | with_reducible refine vIfS ?_ | with_reducible refine vRet ?_ | with_reducible refine vNext ?_ | with_reducible refine vC ?_
 | ((with_reducible refine' vVar ?hv ?_);(case hv=>rfl)) | with_reducible refine vOp ?_ | with_reducible refine vChain ?_ | with_reducible refine vNil ?_ | with_reducible refine vCons ?_ | with_reducible refine vCB ?_ | with_reducible refine vCall ?_
 | with_reducible refine vLst ?_ | with_reducible refine vTup ?_ | with_reducible refine vTest ?_ | with_reducible refine vB ?_ | with_reducible refine vNot ?_ | with_reducible refine vAnd ?_ | with_reducible refine vOr ?_
 | with_reducible refine vAndV ?_ | with_reducible refine vOrV ?_ | with_reducible refine vNotV ?_ | with_reducible refine vYes ?_ | with_reducible refine vLeI ?_ | with_reducible refine vLeS ?_ | with_reducible refine vIsB ?_ | with_reducible refine vAddI ?_ | with_reducible refine vSl ?_ | with_reducible refine vNoPart ?_ | with_reducible refine vPart ?_ | with_reducible refine vExI ?_ | with_reducible refine vBM ?_ | with_reducible refine vBM0 ?_ | with_reducible refine vComp ?_ | with_reducible refine vFor ?_ | with_reducible refine vRng1 ?_ | with_reducible refine vAny ?_ | with_reducible refine vGN ?_ | with_reducible refine vI0 ?_ | with_reducible refine vEqI ?_ | with_reducible refine vEqB ?_ | with_reducible refine vEx ?_ | with_reducible refine vDrop ?_ | with_reducible refine vRetN ?_ | with_reducible refine vFldU ?_ | with_reducible refine vSFldU ?_ | with_reducible refine vXMake ?_ | with_reducible refine vMake ?_ | with_reducible refine vMeth ?_ | with_reducible refine vVinit ?_ | with_reducible refine vCallS ?_ | with_reducible refine vRaise ?_ | with_reducible refine vMethS ?_ | with_reducible refine vMakeS ?_ | with_reducible refine vUn ?_ | with_reducible refine vIf ?_ | with_reducible refine vRev ?_ | with_reducible refine vEnum ?_ | with_reducible refine vDGet2 ?_ | with_reducible refine vStep ?_)
local macro_rules | `(tactic| walk_at "v")=>`(tactic| repeat walk_at "w")
local macro_rules | `(tactic| ext)=>`(tactic| walk_at "v")
noncomputable def fAtt:List Str:=["board","partners","rows","parents","bases","rings","waiting","longer"]
structure Txt (K:W.Frag) (mg:Str->Option Value) (cc:Nat->Addr) (cw:Addr):Prop where
 b_len:mg "len"=none
 b_int:mg "int"=none
 b_enumerate:mg "enumerate"=none
 b_all:mg "all"=none
 b_max:mg "max"=none
 b_min:mg "min"=none
 b_isinstance:mg "isinstance"=none
 b_bool:mg "bool"=none
 b_str:mg "str"=none
 b_range:mg "range"=none
 b_list:mg "list"=none
 b_tuple:mg "tuple"=none
 g_LONGEST_NAME:∃ tk,mg "LONGEST_NAME"=some (.int 6 tk)
 g_MOST_PLACES:∃ tk,mg "MOST_PLACES"=some (.int 14 tk)
 g_MOST_TIES:∃ tk,mg "MOST_TIES"=some (.int 30 tk)
 wcl:Cls K cw
 wn:NoAttr K cw "numbers"
 wo:NoAttr K cw "order"
 wr:NoAttr K cw "near"
 m_Web:mg "Web"=some (.ref cw)
 m_Forest:mg "Forest"=some (.ref (cc 9))
 fcl:Cls K (cc 9)
 fa:∀ a∈fAtt,NoAttr K (cc 9) a
 b_zip:mg "zip"=none
 b_sum:mg "sum"=none
 b_any:mg "any"=none
theorem uS:FnScope ["thing"] ["thing"] (qg zU):=fS
theorem uT:FnScope ["bits","number"] ["bits","number"] (qg qaG):=fS
theorem uM:FnScope ["numbers","thing"] ["numbers","thing"] (qg qah):=fS
theorem KK:FnScope ["numbers","thing","both"] ["numbers","thing"] (qg jx):=fS
theorem qF (a:L2.Same H H1) (hl:H1 l=none):L2.Same H (upd H1 l o):=fun c u e=>by
 have q:=a c u e;rw [qf (qD q hl)];exact q
theorem qaH (a:L2.Same H H1) (hl:H l=none):L2.Same H (upd H1 l o):=fun c u e=>by
 rw [qf (qD e hl)];exact a c u e
noncomputable def sg (c:Nat):Bool:=if (!decide (([c]:List Nat) < ("a":Str).cps.toList))=true then !decide (("z":Str).cps.toList < [c]) else false
noncomputable def zG (x:Str):Bool:=if 1<=x.length/\x.length<=6 then x.cps.toList.all sg else false
theorem nameS_at {x:Str} (h:zG x=true):1<=x.length/\x.length<=6/\x.cps.toList.all sg=true:=by
 unfold zG at h;split at h
 ·rename_i z;exact ⟨z.1,z.2,h⟩
 ·cases h
structure All2 {α β:Type} (R:α->β->Prop) (l:List α) (m:List β):Prop where
 len:l.length=m.length
 at_:∀ (k:Nat) a b,l[k]?=some a->m[k]?=some b->R a b
theorem All2.nil {R:α->β->Prop}:All2 R [] []:=⟨rfl,fun k a b h=>by simp at h⟩
theorem All2.mono {R S:α->β->Prop} {l:List α} {m:List β} (h:All2 R l m) (f:∀ a b,R a b->S a b):All2 S l m:=⟨h.len,fun k a b x y=>f a b (h.at_ k a b x y)⟩
theorem All2.snoc {R:α->β->Prop} {l:List α} {m:List β} {x:α} {y:β} (h:All2 R l m) (r:R x y):All2 R (l++[x]) (m++[y]):=by
 refine ⟨by rw [yt,yt,h.len];rfl,fun k a b ha hb=>?_⟩;by_cases hk:k < l.length
 ·rw [Yc hk] at ha;rw [Yc (by rw [<- h.len];exact hk)] at hb;exact h.at_ k a b ha hb
 ·rw [yI (by omega)] at ha;rw [yI (by rw [<- h.len];omega)] at hb
  have h0:k - l.length=0:=by
   have:=(yc.mp ha).1;simp at this;omega
  rw [<- h.len] at hb;rw [h0] at ha hb;cases ha;cases hb;exact r
theorem All2.mem {R:α->β->Prop} {l:List α} {m:List β} (h:All2 R l m) {x:α} (hx:x∈l):∃ y∈m,R x y:=by
 obtain ⟨k,hk,e⟩:=Xq hx;have hk':k < m.length:=by rw [<- h.len];exact hk
 exact ⟨m[k],Y0 hk',h.at_ k x m[k] (by rw [yb hk,e]) (yb hk')⟩
noncomputable def PL (H:Hp) (l:Addr) (ts:List Addr) (tps:List (Str×Str)):Prop:=H l=some (.lst (ts.map V.ref))/\All2 (fun t ab=>H t=some (.tup [.str ab.1,.str ab.2])) ts tps
theorem PL.same (h:PL H l ts tps) (s:L2.Same H H'):PL H' l ts tps:=⟨s _ _ h.1,h.2.mono fun _ _ z=>s _ _ z⟩
section
variable {P:Program} {w:World} {K:W.Frag} {mg:Str->Option Value} {base:Heap} {cc:Nat->Addr} {cw:Addr} {f:Addr} {fd:FuncData}
inductive spName (vs:List V) (H:Hp) (Q:VK) (E:XK):Prop|mk (x:Str) (_:vs=[.str x]) (_:zG x=true) (_:∀ H',L2.Same H H'->Q (.bl true) H')
theorem ok_name (F:Fun K "is_name" "is_name" zU f fd) (T:Txt K mg cc cw):FnOk P w K mg base CX0 1 f fd ["thing"] spName:=by
 refine F.ok uS fun _ _ _ _ H vs Q E hr h=>?_
 ·obtain ⟨x,rfl,hn,q⟩:=h;obtain ⟨n1,n2,n3⟩:=nameS_at hn;refine ⟨_,(qc (qT (PW.pt (qbI (je (qZ (qp (qbT (K:=K) rfl) rfl T.b_isinstance YT (qa (pv 0) (qa (jX (v:=.ty "str") rfl T.b_str boot_str rfl) qd))))) (qax (je (qdp qfg qfg qh (qp (jI (K:=K) rfl) rfl T.b_len YA (qa (pv 0) qd)) (qb4 rfl T.g_LONGEST_NAME)))))) (qe (qm za)) qv)
 (qe (qm (qp (qe6 (K:=K) rfl rfl) rfl T.b_all boot_all (qa (jg (sc:=qg zU) (XN:=["thing"]) ["sign"] 1 [] rfl rfl rfl (by decide +kernel) rfl (by decide +kernel)
  (qQ (K:=K) rfl (pv 0)) (fun _ _ _ _=>(qq (i:=0) (show (["sign"]:List Str).Nodup by decide +kernel) rfl (yE rfl))) qS
  (fun _ _ _ _=>j0)
  (fun _ _ _ _=>(pe_chain qfg qfg qa2 (pv 0) qa2))) qd))))),?_⟩
  ext;refine qdS (.inl (.str x)) rfl (qaX K "str" (by simp) "str" (by simp)) ?_;ext;refine yq ?_;ext;refine vLenS (yi n2 (by decide)) ?_;ext;refine qP (fun h1=>?_) fun h1=>absurd (yG (by omega)) h1;ext;refine qP (fun h2=>by simp only [XE,decide_eq_false_iff_not] at h2;omega) fun h2=>?_;ext;refine comp_str (fun i ys H'=>H'=H/\ys=((x.cps.toList.take i).map sg).map V.bl) ⟨rfl,by simp⟩ (fun i c ys H' hc hp=>?_) fun ys H' hp=>?_
  ·obtain ⟨rfl,rfl⟩:=hp;ext;refine zN ?_;ext
   have hl:(List.map V.bl (List.map sg (List.take i x.cps.toList))).length < sizeLine:=by
    rw [ya,ya,yL];exact qi (yi (ky _ _) (by simpa [Str.length] using (show x.length<=1000 by omega)))
   have key:∀ b,b=sg c->(List.map V.bl (List.map sg (List.take i x.cps.toList)))++[V.bl b]=List.map V.bl (List.map sg (List.take (i + 1) x.cps.toList)):=by
    intro b hb;have e':x.cps.toList[i]?=some c:=by simpa using hc
    rw [hb,yH,e'];simp
   refine qP (fun h3=>?_) fun h3=>⟨hl,rfl,key _ (by unfold sg;rw [yC h3])⟩;ext;exact ⟨hl,rfl,key _ (by unfold sg;rw [yF h3])⟩
  ·obtain ⟨rfl,rfl⟩:=hp;have ht:x.cps.toList.take x.cps.size=x.cps.toList:=by rw [<- xH,yM]
   rw [ht];refine ⟨?_,fun l hl=>?_⟩
   ·rw [ya,ya];exact yX (qi (by simpa [Str.length] using (show x.length<=1000 by omega)))
   ·ext;refine ⟨l,x.cps.toList.map sg,rfl,SqL.of qb,?_⟩;have z:=q _ (qF (Sr H') (o:=.lst ((x.cps.toList.map sg).map V.bl)) hl);rw [kG];rw [<- n3] at z;exact z
inductive spBit (vs:List V) (H:Hp) (Q:VK) (E:XK):Prop|mk (b n:Int) (_:vs=[.int b,.int n]) (_:0<=n) (_:Q (.bl (decide (Builtin.bitAnd (b / 2 ^ n.toNat) 1=1))) H)
theorem ok_bit (F:Fun K "has_bit" "has_bit" qaG f fd):FnOk P w K mg base CX0 1 f fd ["bits","number"] spBit:=by
 refine F.ok uT fun _ _ _ _ H vs Q E hr h=>?_
 ·obtain ⟨b,n,rfl,hn,q⟩:=h;have hu:=jP hr;refine ⟨_,(qe (qm (jM (zO (K:=K) rfl hu) (qx qbn (qx qdn (pv 0) (pv 1)) qh) qh (qB _)))),?_⟩;ext;refine vI hn ?_;ext;refine .inl (.inl (.inl ⟨rfl,rfl,?_⟩));exact q
noncomputable def qbH:List Str->Nat->List (Key×V)
 | [],_=>[]
 | s::r,i=>(.inr s,.int i)::qbH r (i + 1)
theorem qcF (y:Str):∀ (ss:List Str) (i:Nat),qbH (ss++[y]) i=qbH ss i++[(.inr y,.int (i + ss.length:Nat))]
 | [],i=>rfl
 | s::r,i=>by
  show (_::qbH (r++[y]) (i + 1))=_::(qbH r (i + 1)++_);rw [qcF y r (i + 1)];have:i + 1 + r.length=i + (s::r).length:=by simp;omega
  rw [this]
theorem zH:∀ (ss:List Str) (i:Nat),(qbH ss i).length=ss.length
 | [],_=>rfl
 | _::r,i=>congrArg (· + 1) (zH r (i + 1))
theorem qby:∀ {ss:List Str} {i:Nat},y∉ss->jS (qbH ss i) (.inr y:Key)=none
 | [],_,_=>rfl
 | s::r,i,h=>by
  have h1:¬ s=y:=fun e=>h (by rw [e];exact yZ);show jS ((.inr s,V.int i)::qbH r (i + 1)) _=none;rw [q8 (p:=((.inr s:Key),V.int i)) (fun e=>h1 (xn e))];exact qby fun m=>h (yJ _ m)
theorem jT:∀ {ss:List Str} {i:Nat},y∈ss->∃ j,j < ss.length/\ss[j]?=some y/\jS (qbH ss i) (.inr y:Key)=some (.int (i + j:Nat))
 | [],_,h=>by cases h
 | s::r,i,h=>by
  by_cases e:s=y
  ·subst e;exact ⟨0,by simp,rfl,jl (p:=((.inr s:Key),V.int i)) rfl⟩
  ·rcases yB.mp h with z | z
   ·exact absurd z.symm e
   ·obtain ⟨j,h1,h2,h3⟩:=jT (i:=i + 1) z;refine ⟨j + 1,by simp;omega,by simpa using h2,?_⟩;show jS ((.inr s,V.int i)::qbH r (i + 1)) _=_;rw [q8 (p:=((.inr s:Key),V.int i)) (fun e'=>e (xn e')),h3];have:i + 1 + j=i + (j + 1):=by omega
    rw [this]
theorem qbz (y:Str) (ss:List Str) (i:Nat):(jS (qbH ss i) (.inr y:Key)).isSome=decide (y∈ss):=by
 by_cases h:y∈ss
 ·obtain ⟨j,_,_,e⟩:=jT (i:=i) h;rw [e,yG h];rfl
 ·rw [qby h,yl h];rfl
inductive spPlace (vs:List V) (H:Hp) (Q:VK) (E:XK):Prop|mk (d:Addr) (ss:List Str) (x:Str) (_:vs=[.ref d,.str x]) (_:H d=some (.dK (qbH ss 0))) (_:zG x=true) (_:x∈ss) (_:∀ H',L2.Same H H'->Q (.bl true) H')
theorem ok_place (F:Fun K "is_place" "is_place" qah f fd) (K1:DefOk P w K mg base CX0 1 "is_name" ["thing"] spName):FnOk P w K mg base CX0 2 f fd ["numbers","thing"] spPlace:=by
 refine F.ok uM fun _ _ _ _ H vs Q E hr h=>?_
 ·obtain ⟨d,ss,x,rfl,hd,hn,hx,q⟩:=h;have hu:=jP hr;refine ⟨_,(qe (qm (qcj (qk K1 (hmR hr) qw (qa (pv 1) qd)) (qbL (jM (zS (K:=K) rfl hu) (pv 1) (pv 0) (by with_unfolding_all rfl)))))),?_⟩;ext;refine ⟨x,rfl,hn,fun H1 s1=>?_⟩;ext;refine zN ?_;ext;refine .inr (.inl ⟨d,_,rfl,DGet.k (k:=Sum.inr x) (s1 d _ hd),?_⟩);rw [qbz,yG hx];exact q H1 s1
inductive spTwo (vs:List V) (H:Hp) (Q:VK) (E:XK):Prop|mk (d t:Addr) (ss:List Str) (a b:Str) (_:vs=[.ref d,.ref t]) (_:H d=some (.dK (qbH ss 0))) (_:H t=some (.tup [.str a,.str b])) (_:zG a=true) (_:zG b=true) (_:a∈ss) (_:b∈ss) (_:a≠b) (_:∀ H',L2.Same H H'->Q (.bl true) H')
theorem ok_two (F:Fun K "are_two_places" "are_two_places" jx f fd) (T:Txt K mg cc cw) (KL:DefOk P w K mg base CX0 2 "is_place" ["numbers","thing"] spPlace):FnOk P w K mg base CX0 3 f fd ["numbers","thing"] spTwo:=by
 refine F.ok KK fun _ _ _ _ H vs Q E hr h=>?_
 ·obtain ⟨d,t,ss,a,b,rfl,hd,et,na,nb,ha,hb,hne,q⟩:=h;have hu:=jP hr;refine ⟨_,(qc (qT (PW.pt (qbI (je (qZ (qp (qbT (K:=K) rfl) rfl T.b_isinstance YT (qa (pv 1) (qa (jX (v:=.ty "tuple") rfl T.b_tuple boot_tuple rfl) qd))))) (qax (qo (qa4 (K:=K) rfl hu) (qp (jI (K:=K) rfl) rfl T.b_len YA (qa (pv 1) qd)) qh (qB _))))) (qe (qm za)) qv)
 (qc (qj (i:=2) KK.nd rfl (yE rfl) (qcj (qk KL (hmR hr) qw (qa (pv 0) (qa (qr (qt (K:=K) rfl hu) (pv 1) qh (fun _ _=>rfl)) qd))) (qbL (qk KL (hmR hr) qw (qa (pv 0) (qa (qr (qt (K:=K) rfl hu) (pv 1) qh (fun _ _=>rfl)) qd))))))
 (qe (qm (qcj (pv 2) (qbL (jM (qa4 (K:=K) rfl hu) (qr (qt (K:=K) rfl hu) (pv 1) qh (fun _ _=>rfl)) (qr (qt (K:=K) rfl hu) (pv 1) qh (fun _ _=>rfl)) (qB _)))))))),?_⟩
  ext;refine qdS (.inl (.tup et)) rfl (qaX K "tuple" (by simp) "tuple" (by simp)) ?_;ext;refine yq ?_;ext;refine qfx et ?_;ext;refine .inl ⟨rfl,rfl,?_⟩;ext;refine yq ?_;ext;refine .inl (qat et rfl ?_);ext;refine ⟨d,ss,a,rfl,hd,na,ha,fun H1 s1=>?_⟩;ext;refine zN ?_;ext;refine .inl (qat (s1 _ _ et) rfl ?_);ext;refine ⟨d,ss,b,rfl,s1 _ _ hd,nb,hb,fun H2 s2=>?_⟩;ext;refine zN ?_;ext;refine .inl (qat (s2 _ _ (s1 _ _ et)) rfl ?_);ext;refine .inl (qat (s2 _ _ (s1 _ _ et)) rfl ?_);refine .inl ⟨rfl,rfl,?_⟩;have z:=q H2 (s1.trans s2);have e:(if true=true then !eqV (V.str a) (V.str b) else eqV (V.str a) (V.str b))=true:=by simp [eqV,hne]
  rw [e];exact z
theorem KH:FnScope ["names","numbers","name"] ["names"] (qg zh):=fS
theorem qaY (m j:Nat):decide (Builtin.bitAnd ((m:Int) / 2 ^ (j:Int).toNat) 1=1)=m.testBit j:=by
 rw [PyProof.Rows.bitAnd_m1,Nat.testBit_eq_decide_div_mod_eq];rw [Yd];have e:(m:Int) / 2 ^ j=((m / 2 ^ j:Nat):Int):=by rw [Int.natCast_ediv,kM];rfl
 rw [e]
 congr 1
 apply propext;omega
theorem qdA (m j:Nat):Builtin.bitOr (m:Int) (1 * 2 ^ (j:Int).toNat)=((m ||| 2 ^ j:Nat):Int):=by
 have e:(1 * 2 ^ (j:Int).toNat:Int)=((2 ^ j:Nat):Int):=by rw [Yd,Int.one_mul,kM];rfl
 rw [e];generalize 2 ^ j=k;have n1:Builtin.bitNot (m:Int)=-(m:Int) - 1:=rfl;have n2:Builtin.bitNot (k:Int)=-(k:Int) - 1:=rfl;unfold Builtin.bitOr Builtin.bitAnd;rw [n1,n2,yl (by omega),yl (by omega)];dsimp only;unfold Builtin.bitNot;have e1:(-(-(m:Int) - 1) - 1).toNat=m:=by omega
 have e2:(-(-(k:Int) - 1) - 1).toNat=k:=by omega
 rw [e1,e2];omega
noncomputable def But (x:Addr) (H H':Hp):Prop:=∀ b o,b≠x->H b=some o->H' b=some o
theorem But.refl (x:Addr) (H:Hp):But x H H:=fun _ _ _ e=>e
theorem But.same (a:But x H H1) (b:L2.Same H1 H2):But x H H2:=fun c o n e=>b c o (a c o n e)
theorem But.put (a:But x H H1):But x H (upd H1 x o):=fun c u n e=>by rw [qf n];exact a c u n e
theorem But.new (a:But x H H1) (hl:H1 l=none):But x H (upd H1 l o):=a.same (qF (Sr H1) hl)
theorem qc7 {a q:Addr} {Q:VK} (h:H a=some (.lst xs)) (hq:H q=some (.tup [.ty "list",.ty "tuple"])) (k:Q (.bl true) H):rIsiTU K [.ref a,.ref q] H Q:=
 ⟨_,q,_,_,[.type "list",.type "tuple"],true,rfl,.inl (.lst h),hq,rfl,rfl,k⟩
inductive spNums (vs:List V) (H:Hp) (Q:VK) (E:XK):Prop|mk (a:Addr) (ss:List Str) (_:vs=[.ref a]) (_:H a=some (.lst (ss.map V.str))) (_:ss.length<=14) (_:ss.Nodup) (_:(∀ s∈ss,zG s=true)) (_:∀ d H',L2.Same H H'->H d=none->H' d=some (.dK (qbH ss 0))->Q (.ref d) H')
theorem ok_nums (F:Fun K "numbers_of" "numbers_of" zh f fd) (T:Txt K mg cc cw) (K1:DefOk P w K mg base CX0 1 "is_name" ["thing"] spName) :
  FnOk P w K mg base CX0 4 f fd ["names"] spNums:=by
 refine F.ok KH fun _ _ _ _ H vs Q E hr h=>?_
 ·obtain ⟨a,ss,rfl,ha,h14,hnd,hnm,q⟩:=h;have hu:=jP hr;refine ⟨_,(qc (qT (je (qZ (qp (qc3 (K:=K) rfl) rfl T.b_isinstance YT (qa (pv 0) (qa (jA (qa (jX (v:=.ty "list") rfl T.b_list Xa rfl) (qa (jX (v:=.ty "tuple") rfl T.b_tuple boot_tuple rfl) qd))) qd))))) (qe jo) qv)
 (qc (qT (qo qez (qp (jI (K:=K) rfl) rfl T.b_len YA (qa (pv 0) qd)) (qb4 rfl T.g_MOST_PLACES) (qB _)) (qe jo) qv)
 (qc (qj (i:=1) KH.nd rfl (yE rfl) jZ)
 (qc (ji yV rfl (qQ (K:=K) rfl (pv 0)) (qq (i:=2) KH.nd rfl (yE rfl))
 (qc (qT (je (qZ (qk K1 (hmR hr) qw (qa (pv 2) qd)))) (qe jo) qv)
 (qc (qT (qo (zS (K:=K) rfl hu) (pv 2) (pv 1) (by with_unfolding_all rfl)) (qe jo) qv)
 (qe (jK (qp (jI (K:=K) rfl) rfl T.b_len YA (qa (pv 1) qd)) (jJ (pv 1) (pv 2) (jL hu)))))))
 (qe (qm (pv 1))))))),?_⟩
  ext;refine ⟨by show 2<=sizeLine;decide,fun g hg=>?_⟩;have s0:=qF (Sr H) (o:=.tup [.ty "list",.ty "tuple"]) hg;ext;refine qc7 (s0 _ _ ha) qb ?_;ext;refine yq ?_;ext;refine zd (s0 _ _ ha) ?_;rw [ya];ext;refine qP (fun h=>by have:=yk h;omega) fun _=>?_;ext;intro d hd;have s1:=qF s0 (o:=.dK []) hd;have hd0:H d=none:=s0.free hd;ext;refine .inl ⟨⟨_,SqL.of (s1 _ _ ha)⟩,qV (K:=K) (fun i σ H'=>∃ v2,σ=[some (.ref a),some (.ref d),v2]/\L2.Same H H'/\H' d=some (.dK (qbH (ss.take i) 0))) ⟨none,rfl,s1,qb⟩ (fun i σ H' _ hp=>by obtain ⟨_,_,z,_⟩:=hp;exact SqL.of (z _ _ ha)) (fun i y σ H' hy hp=>?_) fun σ H' hp=>?_⟩
  ·obtain ⟨v2,rfl,s2,hk⟩:=hp;rw [yd] at hy;obtain ⟨x,hx,rfl⟩:=yn.mp hy;have hil:i < ss.length:=(yc.mp hx).1;have htk:ss.take (i + 1)=ss.take i++[x]:=by rw [yH,hx];rfl
   have hm:x∉ss.take i:=fun z=>by
    have h3:(ss.take (i + 1)).Nodup:=hnd.sublist (Xy _ _);rw [htk] at h3;exact (Yg.mp h3).2.2 _ z x (by simp) rfl
   ext;refine ⟨x,rfl,hnm x (ye hx),fun H1 t1=>?_⟩;have s3:=s2.trans t1;ext;refine yq ?_;ext;refine .inr (.inl ⟨d,_,rfl,DGet.k (k:=Sum.inr x) (t1 _ _ hk),?_⟩);rw [qbz,yl hm];ext;refine yq ?_;ext;refine .inr ⟨_,t1 _ _ hk,?_⟩;ext;refine .inr ⟨d,_,rfl,DPut.k (k:=Sum.inr x) (t1 _ _ hk) (qi (by rw [zH,yL];omega)),?_⟩;refine ⟨_,rfl,qaH s3 hd0,?_⟩;rw [qb,qa5 _ (qby hm),htk,qcF,zH];simp only [xB]
  ·obtain ⟨v2,rfl,s2,hk⟩:=hp;ext;rw [ya,yM] at hk;exact q d H' s2 hd0 hk
theorem uN:FnScope ["self","names","ties"] ["self","names","ties"] (qg qai):=fS
theorem Ku:FnScope ["numbers","ties","near","tie","one","other"] ["numbers","ties"] (qg qaI):=fS
noncomputable def qbA (ss:List Str) (ns:List Nat) (seen:List (Str×Str)):Prop:=ns.length=ss.length/\(∀ a,ns.getD a 0 < 2 ^ ss.length)/\∀ a b s t,ss[a]?=some s->ss[b]?=some t->(ns.getD a 0).testBit b=decide ((s,t)∈seen\/(t,s)∈seen)
theorem qz (h:ss.Nodup) {a b:Nat} (ha:ss[a]?=some s) (hb:ss[b]?=some s):a=b:=by
 have hp:=xv.mp h;obtain ⟨la,ea⟩:=yc.mp ha;obtain ⟨lb,eb⟩:=yc.mp hb;rcases Xf a b with q | q | q
 ·exact absurd (ea.trans eb.symm) (hp a b la lb q)
 ·exact q
 ·exact absurd (eb.trans ea.symm) (hp b a lb la q)
theorem bits_zero:qbA ss (List.replicate ss.length 0) []:=by
 have z:∀ a,(List.replicate ss.length 0).getD a 0=0:=fun a=>by
  simp only [List.getD,xN];split<;>rfl
 refine ⟨by simp,fun a=>by rw [z a];exact Nat.two_pow_pos _,fun a b s t ha hb=>?_⟩;rw [z a];simp
theorem zj {v:Nat} (h:i < ns.length):(ns.set i v).getD j 0=if i=j then v else ns.getD j 0:=by
 simp only [List.getD,List.getElem?_set];by_cases e:i=j
 ·subst e;simp [h]
 ·simp [e]
theorem bits_step {seen:List (Str×Str)} (hb:qbA ss ns seen) (hn:ss.Nodup) (hi:ss[i]?=some s) (hj:ss[j]?=some t) (hst:s≠t) :
  qbA ss ((ns.set i (ns.getD i 0 ||| 2 ^ j)).set j (ns.getD j 0 ||| 2 ^ i)) (seen++[(s,t)]):=by
 obtain ⟨hl,hlt,h⟩:=hb;have li:i < ns.length:=by rw [hl];exact (yc.mp hi).1
 have lj:j < ns.length:=by rw [hl];exact (yc.mp hj).1
 have nij:i≠j:=fun e=>by rw [e,hj] at hi;cases hi;exact hst rfl
 have li':i < ss.length:=(yc.mp hi).1;have lj':j < ss.length:=(yc.mp hj).1;refine ⟨by simp [hl],fun a=>?_,fun a b u v ha hb'=>?_⟩
 ·rw [zj (by simpa using lj),zj li];split
  ·exact Y7 (hlt _) (Y5 (by decide) li')
  ·split
   ·exact Y7 (hlt _) (Y5 (by decide) lj')
   ·exact hlt _
 rw [zj (by simpa using lj),zj li];have h0:=h a b u v ha hb';have key:∀ P Q:Prop,(P↔Q)->∀ [Decidable P] [Decidable Q],decide P=decide Q:=fun P Q e=>by intro _ _;exact Yp.mpr e
 by_cases ja:j=a
 ·subst ja;rw [hj] at ha;cases ha;rw [yF rfl,YH,h0,YR];by_cases ib:i=b
  ·subst ib;rw [hi] at hb';cases hb';simp
  ·have vs:v≠s:=fun e=>by subst e;exact ib (qz hn hi hb')
   simp only [ib,kR,ko];apply Yp.mpr;simp only [yz,yy,Xr];constructor
   ·rintro (z | z)
    ·exact .inl (.inl z)
    ·exact .inr (.inl z)
   ·rintro ((z | ⟨z,_⟩) | (z | ⟨z,_⟩))
    ·exact .inl z
    ·exact absurd z.symm hst
    ·exact .inr z
    ·exact absurd z vs
 ·rw [yC ja];by_cases ia:i=a
  ·subst ia;rw [hi] at ha;cases ha;rw [yF rfl,YH,h0,YR];by_cases jb:j=b
   ·subst jb;rw [hj] at hb';cases hb';simp
   ·have vt:v≠t:=fun e=>by subst e;exact jb (qz hn hj hb')
    simp only [jb,kR,ko];apply Yp.mpr;simp only [yz,yy,Xr];constructor
    ·rintro (z | z)
     ·exact .inl (.inl z)
     ·exact .inr (.inl z)
    ·rintro ((z | ⟨_,z⟩) | (z | ⟨_,z⟩))
     ·exact .inl z
     ·exact absurd z vt
     ·exact .inr z
     ·exact absurd z hst
  ·rw [yC ia,h0];have us:u≠s:=fun e=>by subst e;exact ia (qz hn hi ha)
   have ut:u≠t:=fun e=>by subst e;exact ja (qz hn hj ha)
   apply Yp.mpr;simp only [yz,yy,Xr];constructor
   ·rintro (z | z)
    ·exact .inl (.inl z)
    ·exact .inr (.inl z)
   ·rintro ((z | ⟨z,_⟩) | (z | ⟨_,z⟩))
    ·exact .inl z
    ·exact absurd z us
    ·exact .inr z
    ·exact absurd z ut
noncomputable def qau (ns:List Nat):List V:=ns.map fun (n:Nat)=>.int (n:Int)
theorem zk (h:i < ns.length):(qau ns)[i]?=some (.int (ns.getD i 0:Nat)):=by
 unfold qau;rw [yd,yb h];simp [List.getD,h]
theorem qa6 (ns:List Nat) (i m:Nat):(qau ns).set i (.int m)=qau (ns.set i m):=by
 unfold qau;rw [List.map_set]
theorem qcG (k:Nat):(List.replicate k [V.int 0]).flatten=qau (List.replicate k 0):=by
 induction k with
 | zero=>rfl
 | succ k ih=>rw [xk,Xe,ih];rfl
theorem qbB (h:j < n):ixN n (j:Int)=some j:=by
 unfold ixN;rw [yF (by omega),yF (by omega)];rfl
noncomputable def UN (x y:Str×Str):Prop:=x≠y/\x≠(y.2,y.1)
structure TGo (ss:List Str) (tps:List (Str×Str)):Prop where
 few:tps.length<=30
 inn:∀ ab∈tps,ab.1∈ss/\ab.2∈ss/\ab.1≠ab.2
 un:tps.Pairwise UN
structure WOk (ss:List Str) (ns:List Nat):Prop where
 len:ns.length=ss.length
 few:ss.length<=14
 nd:ss.Nodup
 lt:∀ a,ns.getD a 0 < 2 ^ ss.length
 nm:∀ s∈ss,zG s=true
inductive WebAt (cw:Addr) (H:Hp) (x:Addr) (ss:List Str) (ns:List Nat):Prop|mk (dx d ol n:_) (_:H x=some (.ins cw dx (qG "near" (.ref n) (qG "order" (.ref ol) (qG "numbers" (.ref d) []))))) (_:H d=some (.dK (qbH ss 0))) (_:H ol=some (.lst (ss.map V.str))) (_:H n=some (.lst (qau ns))) (_:WOk ss ns)
theorem WebAt.same (h:WebAt cw H x ss ns) (s:L2.Same H H'):WebAt cw H' x ss ns:=by
 obtain ⟨dx,d,ol,n,h1,h2,h3,h4,h5⟩:=h;exact ⟨dx,d,ol,n,s _ _ h1,s _ _ h2,s _ _ h3,s _ _ h4,h5⟩
inductive WebN (H0:Hp) (cw:Addr) (H:Hp) (x:Addr) (ss:List Str) (ns:List Nat):Prop|mk (dx d ol n:_) (_:H x=some (.ins cw dx (qG "near" (.ref n) (qG "order" (.ref ol) (qG "numbers" (.ref d) []))))) (_:H d=some (.dK (qbH ss 0))) (_:H ol=some (.lst (ss.map V.str))) (_:H n=some (.lst (qau ns))) (_:WOk ss ns) (_:H0 d=none) (_:H0 ol=none) (_:H0 n=none)
theorem WebN.web (h:WebN H0 cw H x ss ns):WebAt cw H x ss ns:=by
 obtain ⟨dx,d,ol,n,h1,h2,h3,h4,h5,_⟩:=h;exact ⟨dx,d,ol,n,h1,h2,h3,h4,h5⟩
inductive WebP (A:Addr->Prop) (cw:Addr) (H:Hp) (x:Addr) (ss:List Str) (ns:List Nat):Prop|mk (dx d ol n:_) (_:H x=some (.ins cw dx (qG "near" (.ref n) (qG "order" (.ref ol) (qG "numbers" (.ref d) []))))) (_:H d=some (.dK (qbH ss 0))) (_:H ol=some (.lst (ss.map V.str))) (_:H n=some (.lst (qau ns))) (_:WOk ss ns) (_:¬ A x) (_:¬ A d) (_:¬ A ol) (_:¬ A n)
theorem WebP.web {A:Addr->Prop} (h:WebP A cw H x ss ns):WebAt cw H x ss ns:=by
 obtain ⟨dx,d,ol,n,h1,h2,h3,h4,h5,_⟩:=h;exact ⟨dx,d,ol,n,h1,h2,h3,h4,h5⟩
theorem WebP.keep {A:Addr->Prop} (h:WebP A cw H x ss ns) (k:∀ b o,¬ A b->H b=some o->H' b=some o):WebP A cw H' x ss ns:=by
 obtain ⟨dx,d,ol,n,h1,h2,h3,h4,h5,a1,a2,a3,a4⟩:=h;exact ⟨dx,d,ol,n,k _ _ a1 h1,k _ _ a2 h2,k _ _ a3 h3,k _ _ a4 h4,h5,a1,a2,a3,a4⟩
theorem WebN.apart {A:Addr->Prop} (h:WebN H0 cw H x ss ns) (hx:¬ A x) (ha:∀ a,A a->H0 a≠none):WebP A cw H x ss ns:=by
 obtain ⟨dx,d,ol,n,h1,h2,h3,h4,h5,a2,a3,a4⟩:=h;exact ⟨dx,d,ol,n,h1,h2,h3,h4,h5,hx,fun z=>ha _ z a2,fun z=>ha _ z a3,fun z=>ha _ z a4⟩
theorem qcH:∀ (ss:List Str) (i:Nat),(qbH ss i).map (fun kv=>kV kv.1)=ss.map V.str
 | [],_=>rfl
 | s::r,i=>congrArg (V.str s::·) (qcH r (i + 1))
inductive spNear (vs:List V) (H:Hp) (Q:VK) (E:XK):Prop|mk (d l:Addr) (ss:List Str) (ts:List Addr) (tps:List (Str×Str)) (_:vs=[.ref d,.ref l]) (_:H d=some (.dK (qbH ss 0))) (_:ss.length<=14) (_:ss.Nodup) (_:(∀ s∈ss,zG s=true)) (_:PL H l ts tps) (_:TGo ss tps) (_:∀ n ns H',L2.Same H H'->H n=none->H' n=some (.lst (qau ns))->qbA ss ns tps->Q (.ref n) H')
theorem ok_near (F:Fun K "near_of" "near_of" qaI f fd) (T:Txt K mg cc cw) (Ks:DefOk P w K mg base CX0 3 "are_two_places" ["numbers","thing"] spTwo) (Kg:DefOk P w K mg base CX0 1 "has_bit" ["bits","number"] spBit) :
  FnOk P w K mg base CX0 4 f fd ["numbers","ties"] spNear:=by
 refine F.ok Ku fun _ _ _ _ H vs Q E hr h=>?_
 ·obtain ⟨d,l,ss,ts,tps,rfl,hd,hs14,hnd,hnm,⟨hl,hal⟩,hg,q⟩:=h;have hu:=jP hr;have htl:=hal.len;have few:=hg.few;refine ⟨_,(qc (qT (je (qZ (qp (qc3 (K:=K) rfl) rfl T.b_isinstance YT (qa (pv 1) (qa (jA (qa (jX (v:=.ty "list") rfl T.b_list Xa rfl) (qa (jX (v:=.ty "tuple") rfl T.b_tuple boot_tuple rfl) qd))) qd))))) (qe jo) qv)
 (qc (qT (qo qez (qp (jI (K:=K) rfl) rfl T.b_len YA (qa (pv 1) qd)) (qb4 rfl T.g_MOST_TIES) (qB _)) (qe jo) qv)
 (qc (qj (i:=2) Ku.nd rfl (yE rfl) (qx qd2 (qM (qa qh qd)) (qp (jI (K:=K) rfl) rfl T.b_len YA (qa (pv 0) qd))))
 (qc (ji yV rfl (qQ (K:=K) rfl (pv 1)) (qq (i:=3) Ku.nd rfl (yE rfl))
 (qc (qT (je (qZ (qk Ks (hmR hr) qw (qa (pv 0) (qa (pv 3) qd))))) (qe jo) qv)
 (qc (qj (i:=4) Ku.nd rfl (yE rfl) (qr (qt (K:=K) rfl hu) (pv 0) (qr (qt (K:=K) rfl hu) (pv 3) qh (fun _ _=>rfl)) (fun _ _=>rfl)))
 (qc (qj (i:=5) Ku.nd rfl (yE rfl) (qr (qt (K:=K) rfl hu) (pv 0) (qr (qt (K:=K) rfl hu) (pv 3) qh (fun _ _=>rfl)) (fun _ _=>rfl)))
 (qc (qT (qZ (qk Kg (hmR hr) qw (qa (qr (qt (K:=K) rfl hu) (pv 2) (pv 4) (fun _ _=>rfl)) (qa (pv 5) qd)))) (qe jo) qv)
 (qc (jK (qx qcW (qr (qt (K:=K) rfl hu) (pv 2) (pv 4) (fun _ _=>rfl)) (qx qbm qh (pv 5))) (jJ (pv 2) (pv 4) (jL hu)))
 (qe (jK (qx qcW (qr (qt (K:=K) rfl hu) (pv 2) (pv 5) (fun _ _=>rfl)) (qx qbm qh (pv 4))) (jJ (pv 2) (pv 5) (jL hu))))))))))
 (qe (qm (pv 2))))))),?_⟩
  ext;refine ⟨by show 2<=sizeLine;decide,fun g hgg=>?_⟩;have s0:=qF (Sr H) (o:=.tup [.ty "list",.ty "tuple"]) hgg;ext;refine qc7 (s0 _ _ hl) qb ?_;ext;refine yq ?_;ext;refine zd (s0 _ _ hl) ?_;rw [ya];ext;refine qP (fun h=>by have:=yk h;omega) fun _=>?_;ext;refine ⟨by show 1<=sizeLine;decide,fun z hzz=>?_⟩;have s1:=qF s0 (o:=.lst [.int 0]) hzz;ext;refine .inr ⟨_,s1 _ _ hd,?_⟩;ext;rw [zH];refine ⟨z,_,_,rfl,rfl,qb,by omega,by omega,by show 1 * _<=sizeLine;rw [Yd];exact yX (qi (by omega)),fun n hn=>?_⟩;rw [Yd,qcG];have s2:=qF s1 (o:=.lst (qau (List.replicate ss.length 0))) hn;have n0:H n=none:=s1.free hn;ext;refine .inl ⟨⟨_,SqL.of (s2 _ _ hl)⟩,qV (K:=K) (fun i σ H'=>∃ v3 v4 v5 ns,σ=[some (.ref d),some (.ref l),some (.ref n),v3,v4,v5]/\L2.Same H H'/\H' n=some (.lst (qau ns))/\qbA ss ns (tps.take i))
   ⟨none,none,none,_,rfl,s2,qb,bits_zero⟩ (fun i σ H' _ hp=>by obtain ⟨_,_,_,_,_,z,_⟩:=hp;exact SqL.of (z _ _ hl)) (fun i y σ H' hy hp=>?_) fun σ H' hp=>?_⟩
  ·obtain ⟨v3,v4,v5,ns,rfl,s3,hnn,hbits⟩:=hp;rw [yd] at hy;obtain ⟨t,ht,rfl⟩:=yn.mp hy;have hil:i < ts.length:=(yc.mp ht).1;obtain ⟨⟨sx,sy⟩,hab⟩:∃ ab,tps[i]?=some ab:=⟨_,yb (by rw [<- htl];exact hil)⟩;have ea:=hal.at_ i t _ ht hab;obtain ⟨m1,m2,hne⟩:=hg.inn _ (ye hab);dsimp only at ea m1 m2 hne;have htk:tps.take (i + 1)=tps.take i++[(sx,sy)]:=by rw [yH,hab];rfl
   have hno:¬ ((sx,sy)∈tps.take i\/(sy,sx)∈tps.take i):=fun z=>by
    have h3:(tps.take (i + 1)).Pairwise UN:=hg.un.sublist (Xy _ _);rw [htk] at h3;have h4:=(List.pairwise_append.mp h3).2.2;rcases z with z | z
    ·exact (h4 _ z (sx,sy) (by simp)).1 rfl
    ·exact (h4 _ z (sx,sy) (by simp)).2 rfl
   obtain ⟨ja,hja,gja,vja⟩:=jT (i:=0) m1;obtain ⟨jb,hjb,gjb,vjb⟩:=jT (i:=0) m2;rw [xB] at vja vjb;have nab:ja≠jb:=fun e=>by rw [e,gjb] at gja;cases gja;exact hne rfl
   have lna:ja < ns.length:=by rw [hbits.1];exact hja
   have lnb:jb < ns.length:=by rw [hbits.1];exact hjb
   ext;refine ⟨d,t,ss,sx,sy,rfl,s3 _ _ hd,s3 _ _ ea,hnm _ m1,hnm _ m2,m1,m2,hne,fun H1 t1=>?_⟩;have s4:=s3.trans t1;have hn1:=t1 _ _ hnn;ext;refine yq ?_;ext;refine .inl (qat (s4 _ _ ea) rfl ?_);refine .inr ⟨d,.int ja,rfl,?_,?_⟩
   ·have:=DGet.k (k:=Sum.inr sx) (s4 _ _ hd);rw [vja] at this;exact this
   ext;refine .inl (qat (s4 _ _ ea) rfl ?_);refine .inr ⟨d,.int jb,rfl,?_,?_⟩
   ·have:=DGet.k (k:=Sum.inr sy) (s4 _ _ hd);rw [vjb] at this;exact this
   ext;refine .inl (qae hn1 (qy (zk lna)) ?_);ext;refine ⟨_,_,rfl,by omega,?_⟩;rw [qaY,hbits.2.2 ja jb sx sy gja gjb,yl hno];ext;refine yq ?_;ext;refine .inl (qae hn1 (qy (zk lna)) ?_);ext;refine vI ⟨by omega,by omega,by decide⟩ ?_;ext;rw [qdA];refine .inl (qdR hn1 (qbB (by unfold qau;rw [ya];exact lna)) ?_);rw [qa6];ext;have e2:(ns.set ja (ns.getD ja 0 ||| 2 ^ jb)).getD jb 0=ns.getD jb 0:=by rw [zj lna,yC nab]
   refine .inl (qae qb (qy (zk (by simpa using lnb))) ?_);ext;refine vI ⟨by omega,by omega,by decide⟩ ?_;ext;rw [qdA,e2];refine .inl (qdR qb (qbB (by unfold qau;rw [ya];simpa using lnb)) ?_);rw [qa6];refine ⟨_,_,_,_,rfl,qaH (qaH s4 n0) n0,qb,?_⟩;rw [htk];exact bits_step hbits hnd gja gjb hne
  ·obtain ⟨v3,v4,v5,ns,rfl,s3,hnn,hbits⟩:=hp;ext;rw [ya,htl,yM] at hbits;exact q n _ H' s3 n0 hnn hbits
inductive spWeb (cw:Addr) (vs:List V) (H:Hp) (Q:VK) (E:XK):Prop|mk (x dx a l:Addr) (ss:List Str) (ts:List Addr) (tps:List (Str×Str)) (_:vs=[.ref x,.ref a,.ref l]) (_:H x=some (.ins cw dx [])) (_:H a=some (.lst (ss.map V.str))) (_:ss.length<=14) (_:ss.Nodup) (_:(∀ s∈ss,zG s=true)) (_:PL H l ts tps) (_:TGo ss tps) (_:∀ ns H',But x H H'->WebN H cw H' x ss ns->qbA ss ns tps->Q .non H')
theorem PL.but {C:Addr} {fs:List (Str×V)} (h:PL H l ts tps) (hx:H x=some (.ins C dx fs)) (b:But x H H'):PL H' l ts tps:=
 ⟨b _ _ (qav h.1 hx (by intro z;cases z)) h.1,h.2.mono fun t ab e=>b _ _ (qav e hx (by intro z;cases z)) e⟩
theorem ok_web (F:Fun K "__init__" "Web.__init__" qai f fd) (T:Txt K mg cc cw) (uG:DefOk P w K mg base CX0 4 "numbers_of" ["names"] spNums) (u5:DefOk P w K mg base CX0 4 "near_of" ["numbers","ties"] spNear) :
  FnOk P w K mg base CX0 5 f fd ["self","names","ties"] (spWeb cw):=by
 refine F.ok uN fun _ _ _ _ H vs Q E hr h=>?_
 ·obtain ⟨x,dx,a,l,ss,ts,tps,rfl,hx,ha,h14,nd,hnm,hpl,hg,q⟩:=h;have hu:=jP hr;refine ⟨_,(qc (jY (K:=K) rfl (pv 0) (qk uG (hmR hr) qw (qa (pv 1) qd)) rfl)
 (qc (jY (K:=K) rfl (pv 0) (zQ (qbx (K:=K) rfl rfl) rfl T.b_list Xa (qa (qA (K:=K) rfl (pv 0) rfl) qd)) rfl)
 (qe (jY (K:=K) rfl (pv 0) (qk u5 (hmR hr) qw (qa (qA (K:=K) rfl (pv 0) rfl) (qa (pv 2) qd))) rfl)))),?_⟩
  ext;refine ⟨a,ss,rfl,ha,h14,nd,hnm,fun d H1 s1 hd0 hd=>?_⟩;have b1:=(But.refl x H).same s1;have hx1:=s1 _ _ hx;have ndx:d≠x:=qav hd hx1 (by intro z;cases z);ext;refine .inl ⟨x,cw,dx,[],rfl,hx1,T.wcl,T.wn,by decide,?_⟩;have b2:=b1.put (o:=.ins cw dx (qG "numbers" (.ref d) []));have hd2:upd H1 x (.ins cw dx (qG "numbers" (.ref d) [])) d=some (.dK (qbH ss 0)):=by rw [qf ndx];exact hd
  have ex2:upd H1 x (.ins cw dx (qG "numbers" (.ref d) [])) x=_:=qb;generalize upd H1 x (.ins cw dx (qG "numbers" (.ref d) []))=H2 at b2 hd2 ex2;ext;refine .inl ⟨x,cw,dx,_,.ref d,rfl,ex2,T.wcl,T.wn,by rw [qC,yF rfl],?_⟩;ext;refine .inr (.inl ⟨d,_,rfl,hd2,fun ol ho=>?_⟩);rw [qcH];have no:ol≠x:=fun e=>by subst e;rw [ex2] at ho;cases ho
  have b3:=b2.new (o:=.lst (ss.map V.str)) ho
  have hol0:H ol=none:=by
   cases q':H ol with
   | none=>rfl
   | some o'=>rw [b2 ol o' no q'] at ho;cases ho
  have ndl:d≠ol:=qD hd2 ho;ext;refine .inl ⟨x,cw,dx,_,rfl,(by rw [qf no.symm];exact ex2),T.wcl,T.wo,Yr (jy _ _ _) (by decide),?_⟩;have b4:=b3.put (o:=.ins cw dx (qG "order" (.ref ol) (qG "numbers" (.ref d) [])));have hd3:upd (upd H2 ol (.lst (ss.map V.str))) x (.ins cw dx (qG "order" (.ref ol) (qG "numbers" (.ref d) []))) d=some (.dK (qbH ss 0)):=by rw [qf ndx,qf ndl];exact hd2
  have ho3:upd (upd H2 ol (.lst (ss.map V.str))) x (.ins cw dx (qG "order" (.ref ol) (qG "numbers" (.ref d) []))) ol=some (.lst (ss.map V.str)):=by rw [qf no];exact qb
  have ex3:upd (upd H2 ol (.lst (ss.map V.str))) x (.ins cw dx (qG "order" (.ref ol) (qG "numbers" (.ref d) []))) x=_:=qb;generalize upd (upd H2 ol (.lst (ss.map V.str))) x (.ins cw dx (qG "order" (.ref ol) (qG "numbers" (.ref d) [])))=H3 at b4 hd3 ho3 ex3;ext;refine .inl ⟨x,cw,dx,_,.ref d,rfl,ex3,T.wcl,T.wn,by rw [qC,yC (by decide +kernel),qC,yF rfl],?_⟩;ext;refine ⟨d,l,ss,ts,tps,rfl,hd3,h14,nd,hnm,hpl.but hx b4,hg,fun n ns H4 s4 hn0 hn hbits=>?_⟩;have hx4:=s4 _ _ ex3;have nnx:n≠x:=qav hn hx4 (by intro z;cases z);ext;refine .inl ⟨x,cw,dx,_,rfl,hx4,T.wcl,T.wr,Yr (jy _ _ _) (Yr (Nat.succ_le_succ (jy _ _ _)) (by decide)),?_⟩
  have hn00:H n=none:=by
   cases q':H n with
   | none=>rfl
   | some o'=>rw [b4 n o' nnx q'] at hn0;cases hn0
  exact q ns _ (b4.same s4).put ⟨dx,d,ol,n,qb,by rw [qf ndx];exact s4 _ _ hd3,by rw [qf no];exact s4 _ _ ho3,by rw [qf nnx];exact hn,⟨hbits.1,h14,nd,hbits.2.1,hnm⟩,hd0,hol0,hn00⟩ hbits
theorem uw:FnScope ["self"] ["self"] (qg zl):=fS
theorem K9:FnScope ["self","thing"] ["self","thing"] (qg jB):=fS
theorem ua:FnScope ["self","place"] ["self","place"] (qg jC):=fS
theorem uz:FnScope ["self","place"] ["self","place"] (qg zm):=fS
theorem K2:FnScope ["self","place"] ["self","place"] (qg jp):=fS
theorem K8:FnScope ["self","one","other","bits"] ["self","one","other"] (qg qaj):=fS
theorem ue:FnScope ["self","bits"] ["self","bits"] (qg jv):=fS
theorem jN {n:V}:(qG "near" n (qG "order" ol (qG "numbers" d []))).lookup ("numbers":Str)=some d:=by
 rw [qC,yC (by decide +kernel),qC,yC (by decide +kernel),qC,yF rfl]
theorem qaJ {n:V}:(qG "near" n (qG "order" ol (qG "numbers" d []))).lookup ("order":Str)=some ol:=by
 rw [qC,yC (by decide +kernel),qC,yF rfl]
theorem qd9 {n:V}:(qG "near" n (qG "order" ol (qG "numbers" d []))).lookup ("near":Str)=some n:=by
 rw [qC,yF rfl]
theorem jU {f:Str} {n:V} (h:(f=="near"||f=="order"||f=="numbers")=false):(qG "near" n (qG "order" ol (qG "numbers" d []))).lookup f=none:=by
 simp only [Bool.or_eq_false_iff,YJ] at h;rw [qC,yC h.1.1,qC,yC h.1.2,qC,yC h.2];rfl
noncomputable def inB:List Str->Nat->Nat->List Str
 | [],_,_=>[]
 | s::r,i,b=>if b.testBit i=true then s::inB r (i + 1) b else inB r (i + 1) b
theorem qa7 (y:Str) (b:Nat):∀ (l:List Str) (k:Nat),inB (l++[y]) k b=inB l k b++(if b.testBit (k + l.length)=true then [y] else [])
 | [],k=>by simp [inB]
 | s::r,k=>by
  have ih:=qa7 y b r (k + 1);have e:k + 1 + r.length=k + (s::r).length:=by simp;omega
  rw [e] at ih;simp only [kz,inB,ih];split<;>simp
theorem qaZ (b:Nat):∀ (l:List Str) (k:Nat),(inB l k b).length<=l.length
 | [],_=>yh _
 | s::r,k=>by
  have ih:=qaZ b r (k + 1);simp only [inB];split
  ·simp;omega
  ·simp;omega
inductive spHas (cw:Addr) (vs:List V) (H:Hp) (Q:VK) (E:XK):Prop|mk (x:Addr) (ss:List Str) (ns:List Nat) (y:Str) (_:vs=[.ref x,.str y]) (_:WebAt cw H x ss ns) (_:y∈ss) (_:∀ H',L2.Same H H'->Q (.bl true) H')
inductive spNum (cw:Addr) (vs:List V) (H:Hp) (Q:VK) (E:XK):Prop|mk (x:Addr) (ss:List Str) (ns:List Nat) (y:Str) (j:Nat) (_:vs=[.ref x,.str y]) (_:WebAt cw H x ss ns) (_:ss[j]?=some y) (_:∀ H',L2.Same H H'->Q (.int (j:Nat)) H')
inductive spBB (cw:Addr) (vs:List V) (H:Hp) (Q:VK) (E:XK):Prop|mk (x:Addr) (ss:List Str) (ns:List Nat) (y:Str) (j:Nat) (_:vs=[.ref x,.str y]) (_:WebAt cw H x ss ns) (_:ss[j]?=some y) (_:∀ H',L2.Same H H'->Q (.int (ns.getD j 0:Nat)) H')
inductive spNIn (cw:Addr) (vs:List V) (H:Hp) (Q:VK) (E:XK):Prop|mk (x:Addr) (ss:List Str) (ns:List Nat) (b:Nat) (_:vs=[.ref x,.int b]) (_:WebAt cw H x ss ns) (_:∀ l,H l=none->Q (.ref l) (upd H l (.lst ((inB ss 0 b).map V.str))))
inductive spBs (cw:Addr) (vs:List V) (H:Hp) (Q:VK) (E:XK):Prop|mk (x:Addr) (ss:List Str) (ns:List Nat) (y:Str) (j:Nat) (_:vs=[.ref x,.str y]) (_:WebAt cw H x ss ns) (_:ss[j]?=some y) (_:∀ H',L2.Same H H'->∀ l,H' l=none->Q (.ref l) (upd H' l (.lst ((inB ss 0 (ns.getD j 0)).map V.str))))
inductive spTied (cw:Addr) (vs:List V) (H:Hp) (Q:VK) (E:XK):Prop|mk (x:Addr) (ss:List Str) (ns:List Nat) (y z:Str) (j i:Nat) (_:vs=[.ref x,.str y,.str z]) (_:WebAt cw H x ss ns) (_:ss[j]?=some y) (_:ss[i]?=some z) (_:∀ H',L2.Same H H'->Q (.bl ((ns.getD j 0).testBit i)) H')
inductive spPls (cw:Addr) (vs:List V) (H:Hp) (Q:VK) (E:XK):Prop|mk (x:Addr) (ss:List Str) (ns:List Nat) (_:vs=[.ref x]) (_:WebAt cw H x ss ns) (_:∀ l,H l=none->Q (.ref l) (upd H l (.lst (ss.map V.str))))
theorem ok_has (F:Fun K "has_place" "Web.has_place" jB f fd) (T:Txt K mg cc cw) (KL:DefOk P w K mg base CX0 2 "is_place" ["numbers","thing"] spPlace):FnOk P w K mg base CX0 3 f fd ["self","thing"] (spHas cw):=by
 refine F.ok K9 fun _ _ _ _ H vs Q E hr h=>?_
 ·obtain ⟨x,ss,ns,y,rfl,⟨dx,d,ol,n,hx,hd,ho,hn,hw⟩,hy,q⟩:=h;refine ⟨_,(qe (qm (qk KL (hmR hr) qw (qa (qA (K:=K) rfl (pv 0) rfl) (qa (pv 1) qd))))),?_⟩;ext;refine .inl ⟨x,cw,dx,_,.ref d,rfl,hx,T.wcl,T.wn,jN,?_⟩;ext;exact ⟨d,ss,y,rfl,hd,hw.nm _ hy,hy,q⟩
theorem ok_num (F:Fun K "number_of" "Web.number_of" jC f fd) (T:Txt K mg cc cw) (Kv:MethOk P w K mg base CX0 3 cw "has_place" ["self","thing"] (spHas cw)):FnOk P w K mg base CX0 4 f fd ["self","place"] (spNum cw):=by
 refine F.ok ua fun _ _ _ _ H vs Q E hr h=>?_
 ·obtain ⟨x,ss,ns,y,j,rfl,hW,gj,q⟩:=h;obtain ⟨dx,d,ol,n,hx,hd,ho,hn,hw⟩:=id hW;have hy:=ye gj;have hu:=jP hr;refine ⟨_,(qc (qT (je (qZ (qE Kv (hmR hr) (pv 0) (qa (pv 1) qd)))) (qe jo) qv)
 (qe (qm (qr (qt (K:=K) rfl hu) (qA (K:=K) rfl (pv 0) rfl) (pv 1) (fun _ _=>rfl))))),?_⟩
  ext;refine ⟨x,dx,_,rfl,hx,jU (by decide +kernel),?_⟩;ext;refine ⟨x,ss,ns,y,rfl,hW,hy,fun H1 s1=>?_⟩;ext;refine yq ?_;obtain ⟨i,hi,gi,vj⟩:=jT (i:=0) hy;rw [xB,qz hw.nd gi gj] at vj;ext;refine .inl ⟨x,cw,dx,_,.ref d,rfl,s1 _ _ hx,T.wcl,T.wn,jN,?_⟩;ext;refine .inr ⟨d,.int j,rfl,?_,q H1 s1⟩;have:=DGet.k (k:=Sum.inr y) (s1 _ _ hd);rw [vj] at this;exact this
theorem ok_bb (F:Fun K "bits_beside" "Web.bits_beside" jp f fd) (T:Txt K mg cc cw) (Kh:MethOk P w K mg base CX0 4 cw "number_of" ["self","place"] (spNum cw)):FnOk P w K mg base CX0 5 f fd ["self","place"] (spBB cw):=by
 refine F.ok K2 fun _ _ _ _ H vs Q E hr h=>?_
 ·obtain ⟨x,ss,ns,y,j,rfl,hW,gj,q⟩:=h;obtain ⟨dx,d,ol,n,hx,hd,ho,hn,hw⟩:=id hW;have hu:=jP hr;refine ⟨_,(qe (qm (qr (qt (K:=K) rfl hu) (qA (K:=K) rfl (pv 0) rfl) (qE Kh (hmR hr) (pv 0) (qa (pv 1) qd)) (fun _ _=>rfl)))),?_⟩;ext;refine .inl ⟨x,cw,dx,_,.ref n,rfl,hx,T.wcl,T.wr,qd9,?_⟩;ext;refine ⟨x,dx,_,rfl,hx,jU (by decide +kernel),?_⟩;ext;refine ⟨x,ss,ns,y,j,rfl,hW,gj,fun H1 s1=>?_⟩;exact .inl (qae (s1 _ _ hn) (qy (zk (by rw [hw.len];exact (yc.mp gj).1))) (q H1 s1))
theorem ok_nin (F:Fun K "names_in" "Web.names_in" jv f fd) (T:Txt K mg cc cw) (Kg:DefOk P w K mg base CX0 1 "has_bit" ["bits","number"] spBit):FnOk P w K mg base CX0 2 f fd ["self","bits"] (spNIn cw):=by
 refine F.ok ue fun _ _ _ _ H vs Q E hr h=>?_
 ·obtain ⟨x,ss,ns,b,rfl,⟨dx,d,ol,n,hx,hd,ho,hn,hw⟩,q⟩:=h;have hu:=jP hr;refine ⟨_,(qe (qm (jg (sc:=qg jv) (XN:=["self","bits"]) ["name","bits","self"] 1 [1,0] rfl rfl rfl (by decide +kernel) rfl (by decide +kernel)
  (qQ (K:=K) rfl (qA (K:=K) rfl (pv 0) rfl)) (fun _ _ _ _=>(qq (i:=0) (show (["name","bits","self"]:List Str).Nodup by decide +kernel) rfl (yE rfl))) qS
  (fun _ _ _ _=>(q9 (qZ (qk Kg (hmR hr) qw (qa (pv 1) (qa (qr (qt (K:=K) rfl hu) (qA (K:=K) rfl (pv 2) rfl) (pv 0) (fun _ _=>rfl)) qd))))))
  (fun _ _ _ _=>(pv 0))))),?_⟩
  ext;refine .inl ⟨x,cw,dx,_,.ref ol,rfl,hx,T.wcl,T.wo,qaJ,?_⟩;refine .inl ⟨⟨_,SqL.of ho⟩,qK (K:=K) (fun i ys H'=>H'=H/\ys=(inB (ss.take i) 0 b).map V.str) ⟨rfl,by simp [inB]⟩ (fun i ys H' _ hp=>by rw [hp.1];exact SqL.of ho) (fun i y ys H' hy hp=>?_) fun ys H' hp=>?_⟩
  ·obtain ⟨rfl,rfl⟩:=hp;have hi:i < ss.length:=by simpa using (yc.mp hy).1
   have gi:ss[i]?=some ss[i]:=yb hi;generalize ss[i]=sy at gi;have ey:y=.str sy:=by rw [yd,gi] at hy;cases hy;rfl
   subst ey;obtain ⟨j,hj,gj,vj⟩:=jT (i:=0) (ye gi);rw [xB] at vj;have hji:j=i:=qz hw.nd gj gi;subst hji;have htk:ss.take (j + 1)=ss.take j++[sy]:=by rw [yH,gi];rfl
   have hln:(ss.take j).length=j:=by rw [yL];omega
   ext;refine .inl ⟨x,cw,dx,_,.ref d,rfl,hx,T.wcl,T.wn,jN,?_⟩;ext;refine .inr ⟨d,.int j,rfl,?_,?_⟩
   ·have:=DGet.k (k:=Sum.inr sy) hd;rw [vj] at this;exact this
   ext;refine ⟨_,_,rfl,by omega,?_⟩;rw [qaY];ext
   have few:((inB (ss.take j) 0 b).map V.str).length < sizeLine:=by
    rw [ya];exact qi (yi (qaZ _ _ _) (by rw [hln];have:=hw.few;omega))
   refine qP (fun hb=>?_) fun hb=>?_
   ·ext;refine ⟨few,rfl,?_⟩;rw [htk,qa7,hln,xB,yF hb];simp
   ·refine ⟨rfl,?_⟩;rw [htk,qa7,hln,xB,yC hb];simp
  ·obtain ⟨rfl,rfl⟩:=hp;have etk:ss.take (ss.map V.str).length=ss:=by rw [ya,yM]
   rw [etk];refine ⟨?_,fun l hl=>q l hl⟩;rw [ya];exact yX (qi (yi (qaZ _ _ _) (by have:=hw.few;omega)))
theorem ok_bs (F:Fun K "beside" "Web.beside" zm f fd) (T:Txt K mg cc cw) (Kr:MethOk P w K mg base CX0 5 cw "bits_beside" ["self","place"] (spBB cw)) (KA:MethOk P w K mg base CX0 2 cw "names_in" ["self","bits"] (spNIn cw)):FnOk P w K mg base CX0 6 f fd ["self","place"] (spBs cw):=by
 refine F.ok uz fun _ _ _ _ H vs Q E hr h=>?_
 ·obtain ⟨x,ss,ns,y,j,rfl,hW,gj,q⟩:=h;obtain ⟨dx,d,ol,n,hx,_⟩:=id hW;refine ⟨_,(qe (qm (qE KA (hmR hr) (pv 0) (qa (qE Kr (hmR hr) (pv 0) (qa (pv 1) qd)) qd)))),?_⟩;ext;refine ⟨x,dx,_,rfl,hx,jU (by decide +kernel),?_⟩;ext;refine ⟨x,dx,_,rfl,hx,jU (by decide +kernel),?_⟩;ext;refine ⟨x,ss,ns,y,j,rfl,hW,gj,fun H1 s1=>?_⟩;ext;exact ⟨x,ss,ns,_,rfl,hW.same s1,q H1 s1⟩
theorem ok_tied (F:Fun K "tied" "Web.tied" qaj f fd) (T:Txt K mg cc cw) (Kr:MethOk P w K mg base CX0 5 cw "bits_beside" ["self","place"] (spBB cw)) (Kh:MethOk P w K mg base CX0 4 cw "number_of" ["self","place"] (spNum cw))
  (Kg:DefOk P w K mg base CX0 1 "has_bit" ["bits","number"] spBit):FnOk P w K mg base CX0 6 f fd ["self","one","other"] (spTied cw):=by
 refine F.ok K8 fun _ _ _ _ H vs Q E hr h=>?_
 ·obtain ⟨x,ss,ns,y,z,j,i,rfl,hW,gj,gi,q⟩:=h;obtain ⟨dx,d,ol,n,hx,_⟩:=id hW;refine ⟨_,(qc (qj (i:=3) K8.nd rfl (yE rfl) (qE Kr (hmR hr) (pv 0) (qa (pv 1) qd)))
 (qe (qm (qk Kg (hmR hr) qw (qa (pv 3) (qa (qE Kh (hmR hr) (pv 0) (qa (pv 2) qd)) qd)))))),?_⟩
  ext;refine ⟨x,dx,_,rfl,hx,jU (by decide +kernel),?_⟩;ext;refine ⟨x,ss,ns,y,j,rfl,hW,gj,fun H1 s1=>?_⟩;ext;refine ⟨x,dx,_,rfl,s1 _ _ hx,jU (by decide +kernel),?_⟩;ext;refine ⟨x,ss,ns,z,i,rfl,hW.same s1,gi,fun H2 s2=>?_⟩;ext;refine ⟨_,_,rfl,by omega,?_⟩;rw [qaY];exact q H2 (s1.trans s2)
theorem ok_pls (F:Fun K "places" "Web.places" zl f fd) (T:Txt K mg cc cw):FnOk P w K mg base CX0 1 f fd ["self"] (spPls cw):=by
 refine F.ok uw fun _ _ _ _ H vs Q E hr h=>?_
 ·obtain ⟨x,ss,ns,rfl,⟨dx,d,ol,n,hx,hd,ho,hn,hw⟩,q⟩:=h;refine ⟨_,(qe (qm (zQ (qbx (K:=K) rfl rfl) rfl T.b_list Xa (qa (qA (K:=K) rfl (pv 0) rfl) qd)))),?_⟩;ext;refine .inl ⟨x,cw,dx,_,.ref ol,rfl,hx,T.wcl,T.wo,qaJ,?_⟩;ext;exact .inl ⟨ol,_,rfl,.inl (SqL.of ho),q⟩
theorem Ke:FnScope ["self","pieces","seen","number","piece"] ["self"] (qg zo):=fS
theorem k8:FnScope ["near","number","piece","before","at","bits"] ["near","number"] (qg jQ):=fS
theorem qc8 (m k:Nat):Builtin.bitOr (m:Int) (k:Int)=((m ||| k:Nat):Int):=by
 have n1:Builtin.bitNot (m:Int)=-(m:Int) - 1:=rfl;have n2:Builtin.bitNot (k:Int)=-(k:Int) - 1:=rfl;unfold Builtin.bitOr Builtin.bitAnd;rw [n1,n2,yl (by omega),yl (by omega)];dsimp only;unfold Builtin.bitNot;have e1:(-(-(m:Int) - 1) - 1).toNat=m:=by omega
 have e2:(-(-(k:Int) - 1) - 1).toNat=k:=by omega
 rw [e1,e2];omega
theorem qc9 (j:Nat):(1 * 2 ^ (j:Int).toNat:Int)=((2 ^ j:Nat):Int):=by rw [Yd,Int.one_mul,kM];rfl
inductive Rch (ns:List Nat) (i:Nat):Nat->Prop
 | zero:Rch ns i i
 | step {a b:Nat} (h:Rch ns i a) (t:(ns.getD a 0).testBit b=true):Rch ns i b
theorem Rch.trans {a b:Nat} (h:Rch ns i a) (g:Rch ns a b):Rch ns i b:=by
 induction g with
 | zero=>exact h
 | step _ t ih=>exact .step ih t
inductive spPc (vs:List V) (H:Hp) (Q:VK) (E:XK):Prop|mk (n:Addr) (ns:List Nat) (i:Nat) (_:vs=[.ref n,.int i]) (_:H n=some (.lst (qau ns))) (_:i < ns.length) (_:ns.length<=14) (_:(∀ a,ns.getD a 0 < 2 ^ ns.length)) (_:∀ (b:Nat) (H':Hp),L2.Same H H'->(∀ c,b.testBit c=true↔Rch ns i c)->Q (.int b) H')
noncomputable def qda (ns:List Nat) (k:Nat):Bool:=@decide (∀ j,j < k->¬ Rch ns j k) (Classical.propDecidable _)
theorem isRep_iff {k:Nat}:qda ns k=true↔∀ j,j < k->¬ Rch ns j k:=by unfold qda;exact @decide_eq_true_iff _ (Classical.propDecidable _)
noncomputable def qew (ns:List Nat) (n:Nat):List Nat:=(List.range n).filter (qda ns)
open Classical in
noncomputable def qcI (ss:List Str) (ns:List Nat) (k:Nat):List Str:=ss.filter fun s=>decide (Rch ns k (ss.idxOf s))
theorem qcJ (hn:ss.Nodup) (h:ss[i]?=some s):ss.idxOf s=i:=by
 have hm:s∈ss:=ye h;have hl:ss.idxOf s < ss.length:=YE hm;exact qz hn (by rw [yb hl,YY]) h
theorem zy (hn:ss.Nodup) (b:Nat):inB ss 0 b=ss.filter fun s=>b.testBit (ss.idxOf s):=by
 have key:∀ k,k<=ss.length->inB (ss.take k) 0 b=(ss.take k).filter fun s=>b.testBit (ss.idxOf s):=fun k=>by
  induction k with
  | zero=>intro _;simp [inB]
  | succ k ih =>
   intro hk;have gk:ss[k]?=some ss[k]:=yb (by omega);generalize ss[k]=sk at gk;have htk:ss.take (k + 1)=ss.take k++[sk]:=by rw [yH,gk];rfl
   have hln:(ss.take k).length=k:=by rw [yL];omega
   rw [htk,qa7,yW,ih (by omega),hln,xB]
   congr 1
   rw [yS,Yv,qcJ hn gk]
 have:=key ss.length (yh _)
 rwa [yM] at this
theorem comp_of (hn:ss.Nodup) {b k:Nat} (h:∀ c,b.testBit c=true↔Rch ns k c):inB ss 0 b=qcI ss ns k:=by
 rw [zy hn];unfold qcI;apply Y8;intro s _;rw [Yq,h];simp
noncomputable def qgn (H H':Hp) (l:Addr) (a:Addr) (ps:List Str):Prop:=H a=none/\a≠l/\H' a=some (.lst (ps.map V.str))
inductive spPcs (cw:Addr) (vs:List V) (H:Hp) (Q:VK) (E:XK):Prop|mk (x:Addr) (ss:List Str) (ns:List Nat) (_:vs=[.ref x]) (_:WebAt cw H x ss ns) (_:∀ (l:Addr) (ls:List Addr) (H':Hp),L2.Same H H'->H l=none->H' l=some (.lst (ls.map V.ref))->All2 (qgn H H' l) ls ((qew ns ss.length).map (qcI ss ns))->Q (.ref l) H')
theorem ok_pc (F:Fun K "piece_around" "piece_around" jQ f fd) (T:Txt K mg cc cw) (Kg:DefOk P w K mg base CX0 1 "has_bit" ["bits","number"] spBit):FnOk P w K mg base CX0 2 f fd ["near","number"] spPc:=by
 refine F.ok k8 fun _ _ _ _ H vs Q E hr h=>?_
 ·obtain ⟨n,ns,i,rfl,hn,hi,h14,hlt,q⟩:=h;have hu:=jP hr;refine ⟨_,(qc (qj (i:=2) k8.nd rfl (yE rfl) (qx qbm qh (pv 1)))
 (qc (qj (i:=3) k8.nd rfl (yE rfl) qh)
 (qc (zZ yV (qo (qa4 (K:=K) rfl hu) (pv 3) (pv 2) (qB _))
 (qc (qj (i:=3) k8.nd rfl (yE rfl) (pv 2))
 (qe (ji yV rfl (pi_enum (K:=K) rfl rfl T.b_enumerate (qa (pv 0) qd)) (qbM rfl (jw (qq (i:=4) k8.nd rfl (yE rfl)) (jw (qq (i:=5) k8.nd rfl (yE rfl)) qaT)))
 (qe (qT (qZ (qk Kg (hmR hr) qw (qa (pv 3) (qa (pv 4) qd)))) (qe (qj (i:=2) k8.nd rfl (yE rfl) (qx qcW (pv 2) (pv 5)))) qv))))))
 (qe (qm (pv 2)))))),?_⟩
  ext;refine vI ⟨by omega,by omega,by decide⟩ ?_;ext;rw [qc9];have two:∀ c,(2 ^ i:Nat).testBit c=decide (i=c):=fun c=>YR;refine ⟨fun m σ H'=>∃ (pc bf:Nat) (x4 x5:Option V),m=2 ^ ns.length - bf/\σ=[some (.ref n),some (.int i),some (.int pc),some (.int bf),x4,x5]/\L2.Same H H'/\bf ||| pc=pc/\pc < 2 ^ ns.length/\pc.testBit i=true/\(∀ c,pc.testBit c=true->Rch ns i c)/\∀ a c,bf.testBit a=true->(ns.getD a 0).testBit c=true->pc.testBit c=true,
   ⟨_,2 ^ i,0,none,none,rfl,rfl,L2.Same.refl H,by simp,Y5 (by decide) hi,by rw [two];simp,fun c hc=>by rw [two] at hc;rw [<- yk hc];exact .zero,fun a c ha=>by simp at ha⟩,fun m σ H1 hW=>?_⟩
  obtain ⟨pc,bf,x4,x5,rfl,rfl,s1,hsub,hpl,hpi,hrch,hclo⟩:=hW;ext;refine .inl ⟨rfl,rfl,?_⟩;ext;refine qP (fun hne=>?_) fun heq=>?_
  ·have hne':bf≠pc:=fun e=>by
    subst e;simp [eqV] at hne
   have hbl:bf < pc:=by
    have h1:bf<=bf ||| pc:=Nat.left_le_or;rw [hsub] at h1;omega
   refine ⟨fun σ' H'=>∃ (pk:Nat) (x4 x5:Option V),σ'=[some (.ref n),some (.int i),some (.int pk),some (.int pc),x4,x5]/\L2.Same H H'/\pc ||| pk=pk/\pk < 2 ^ ns.length/\pk.testBit i=true/\(∀ c,pk.testBit c=true->Rch ns i c)/\∀ a c,pc.testBit a=true->(ns.getD a 0).testBit c=true->pk.testBit c=true,
    fun σ' H' hN=>?_,?_⟩
   ·obtain ⟨pk,x4,x5,rfl,k1,k2,k3,k4,k5,k6⟩:=hN;exact ⟨2 ^ ns.length - pc,by omega,pk,pc,x4,x5,rfl,rfl,k1,k2,k3,k4,k5,k6⟩
   ·ext;refine ⟨n,qau ns,rfl,SqL.of (s1 _ _ hn),for_enum (K:=K) (fun k σ H'=>∃ (pk:Nat) (x4 x5:Option V),σ=[some (.ref n),some (.int i),some (.int pk),some (.int pc),x4,x5]/\L2.Same H H'/\pc ||| pk=pk/\pk < 2 ^ ns.length/\(∀ c,pk.testBit c=true->Rch ns i c)/\∀ a c,a < k->pc.testBit a=true->(ns.getD a 0).testBit c=true->pk.testBit c=true)
     ⟨pc,_,_,rfl,s1,by simp,hpl,hrch,fun a c h=>by omega⟩ (fun k σ H' _ hp=>by obtain ⟨_,_,_,_,z,_⟩:=hp;exact SqL.of (z _ _ hn)) (fun k y t σ H2 hy ht hp=>?_) fun σ H2 hp=>?_⟩
    ·obtain ⟨pk,x4,x5,rfl,s2,hs2,hl2,hr2,hc2⟩:=hp;have s3:=qF s2 (o:=.tup [.int k,y]) ht;have hkl:k < ns.length:=by have:=(yc.mp hy).1;unfold qau at this;simpa using this
     have ey:y=.int (ns.getD k 0:Nat):=by rw [zk hkl] at hy;cases hy;rfl
     refine ⟨t,_,rfl,SqT.of qb,rfl,_,_,rfl,_,_,rfl,rfl,?_⟩;subst ey;ext;refine ⟨_,_,rfl,by omega,?_⟩;rw [qaY];ext;refine qP (fun hb=>?_) fun hb=>?_
     ·ext;rw [qc8];refine ⟨pk ||| ns.getD k 0,_,_,rfl,s3,by rw [<- Nat.or_assoc,hs2],Y7 hl2 (hlt k),fun c hc=>?_,fun a c ha h1 h2=>?_⟩
      ·rw [YH,xi] at hc;rcases hc with hc | hc
       ·exact hr2 c hc
       ·exact .step (hrch k hb) hc
      ·rw [YH,xi];by_cases hak:a=k
       ·subst hak;exact .inr h2
       ·exact .inl (hc2 a c (by omega) h1 h2)
     ·refine ⟨pk,_,_,rfl,s3,hs2,hl2,hr2,fun a c ha h1 h2=>?_⟩;by_cases hak:a=k
      ·subst hak;exact absurd h1 hb
      ·exact hc2 a c (by omega) h1 h2
    ·obtain ⟨pk,x4,x5,rfl,s2,hs2,hl2,hr2,hc2⟩:=hp;refine ⟨pk,x4,x5,rfl,s2,hs2,hl2,by rw [<- hs2,YH,hpi];rfl,hr2,fun a c h1 h2=>hc2 a c ?_ h1 h2⟩
     have hla:a < ns.length:=by
      refine XR fun hge=>?_;have:pc.testBit a=false:=Nat.testBit_lt_two_pow (yj hpl (Nat.pow_le_pow_right (by decide) hge));rw [this] at h1;cases h1
     unfold qau;rw [ya];exact hla
  ·have he:bf=pc:=by
    simp only [Xz,eqV,XE,Bool.not_eq_false'] at heq;have:((bf:Int)==(pc:Int))=true:=by simpa using heq
    have:=eq_of_beq this;omega
   subst he;ext;refine q bf H1 s1 fun c=>⟨hrch c,fun hc=>?_⟩
   induction hc with
   | zero=>exact hpi
   | step _ t ih=>exact hclo _ _ ih t
theorem qcK (ns:List Nat) (k:Nat):((∃ j,j < k/\Rch ns j k)->qew ns (k + 1)=qew ns k)/\((¬ ∃ j,j < k/\Rch ns j k)->qew ns (k + 1)=qew ns k++[k]):=by
 unfold qew;rw [YN,yW];constructor
 ·rintro ⟨j,hj,hr⟩
  have e:qda ns k=false:=by
   rw [Bool.eq_false_iff];intro h;exact isRep_iff.mp h j hj hr
  simp [e]
 ·intro h;have e:qda ns k=true:=isRep_iff.mpr fun j hj hr=>h ⟨j,hj,hr⟩;simp [e]
theorem ok_pcs (F:Fun K "pieces" "Web.pieces" zo f fd) (T:Txt K mg cc cw) (Kg:DefOk P w K mg base CX0 1 "has_bit" ["bits","number"] spBit) (um:DefOk P w K mg base CX0 2 "piece_around" ["near","number"] spPc)
  (KA:MethOk P w K mg base CX0 2 cw "names_in" ["self","bits"] (spNIn cw)):FnOk P w K mg base CX0 3 f fd ["self"] (spPcs cw):=by
 refine F.ok Ke fun _ _ _ _ H vs Q E hr h=>?_
 ·obtain ⟨x,ss,ns,rfl,hW,q⟩:=h;obtain ⟨dx,d,ol,n,hx,hd,ho,hn,hw⟩:=id hW;refine ⟨_,(qc (qj (i:=1) Ke.nd rfl (yE rfl) (qM qd))
 (qc (qj (i:=2) Ke.nd rfl (yE rfl) qh)
 (qc (ji yV rfl (js rfl T.b_range (qa (qp (jI (K:=K) rfl) rfl T.b_len YA (qa (qA (K:=K) rfl (pv 0) rfl) qd)) qd)) (qq (i:=3) Ke.nd rfl (yE rfl))
 (qe (qT (je (qZ (qk Kg (hmR hr) qw (qa (pv 2) (qa (pv 3) qd))))) (qc (qj (i:=4) Ke.nd rfl (yE rfl) (qk um (hmR hr) qw (qa (qA (K:=K) rfl (pv 0) rfl) (qa (pv 3) qd))))
 (qc (qj (i:=2) Ke.nd rfl (yE rfl) (qx qcW (pv 2) (pv 4)))
 (qe (qL (qaW (K:=K) rfl yD y0 Yb qI (pv 1) (qa (qE KA (hmR hr) (pv 0) (qa (pv 4) qd)) qd)))))) qv)))
 (qe (qm (pv 1)))))),?_⟩
  ext;refine ⟨by decide,fun l hl=>?_⟩;have s0:=qF (Sr H) (o:=.lst []) hl;ext;refine .inl ⟨x,cw,dx,_,.ref ol,rfl,s0 _ _ hx,T.wcl,T.wo,qaJ,?_⟩;ext;refine zd (s0 _ _ ho) ?_;rw [ya];have few:=hw.few;refine ⟨_,rfl,by omega,by omega,?_⟩;rw [Yd];refine zw (fun k σ H'=>k<=ss.length/\∃ (sn:Nat) (ls:List Addr) (x3 x4:Option V),σ=[some (.ref x),some (.ref l),some (.int sn),x3,x4]/\L2.Same H H'/\H' l=some (.lst (ls.map V.ref))/\All2 (qgn H H' l) ls ((qew ns k).map (qcI ss ns))/\ls.length<=k/\∀ b,sn.testBit b=true↔∃ j,j < k/\Rch ns j b)
   ⟨YK _,0,[],none,none,rfl,s0,qb,All2.nil,yh _,fun b=>⟨fun h=>by simp at h,fun ⟨j,h,_⟩=>by omega⟩⟩ (fun k σ H1 hk hp=>?_) fun σ H1 hp=>?_
  ·obtain ⟨_,sn,ls,x3,x4,rfl,s1,hl1,hall,hlen,hsn⟩:=hp;ext;rw [xX];refine ⟨_,_,rfl,by omega,?_⟩;rw [qaY];ext;refine qP (fun hb=>?_) fun hb=>?_
   ·have hnot:¬ ∃ j,j < k/\Rch ns j k:=fun h=>by
     rw [<- hsn] at h;rw [h] at hb;cases hb
    ext;refine .inl ⟨x,cw,dx,_,.ref n,rfl,s1 _ _ hx,T.wcl,T.wr,qd9,?_⟩;ext;refine ⟨n,ns,k,rfl,s1 _ _ hn,by rw [hw.len];omega,by rw [hw.len];exact few,by rw [hw.len];exact hw.lt,fun b H2 s2 hbr=>?_⟩;have s3:=s1.trans s2;have hl2:=s2 _ _ hl1;ext;rw [qc8];refine ⟨.inl ⟨rfl,_,SqL.of hl2⟩,?_⟩;ext;refine ⟨x,dx,_,rfl,s3 _ _ hx,jU (by decide +kernel),?_⟩;ext;refine ⟨x,ss,ns,b,rfl,hW.same s3,fun a ha=>?_⟩;ext;have nal:l≠a:=qD hl2 ha;refine ⟨l,_,_,rfl,rfl,by rw [qf nal];exact hl2,by rw [ya];exact qi (by omega),?_⟩;have s4:=qaH (qF s3 (o:=.lst ((inB ss 0 b).map V.str)) ha) (o:=.lst (ls.map V.ref++[.ref a])) hl;refine ⟨by omega,sn ||| b,ls++[a],_,_,rfl,s4,by rw [qb,yu];rfl,?_,by rw [yt];show ls.length + 1<=k + 1;omega,fun c=>?_⟩
    ·rw [(qcK ns k).2 hnot,yu];refine All2.snoc (hall.mono fun a' ps hp=>⟨hp.1,hp.2.1,?_⟩) ⟨s3.free ha,nal.symm,?_⟩
     ·have na:a'≠a:=fun e=>by
       have z:=s2 _ _ hp.2.2;rw [e,ha] at z;cases z
      rw [qf hp.2.1,qf na];exact s2 _ _ hp.2.2
     ·rw [qf nal.symm,qb,comp_of hw.nd hbr]
    ·rw [YH,xi,hsn,hbr];constructor
     ·rintro (⟨j,h1,h2⟩ | h)
      ·exact ⟨j,by omega,h2⟩
      ·exact ⟨k,by omega,h⟩
     ·rintro ⟨j,h1,h2⟩;by_cases hjk:j=k
      ·subst hjk;exact .inr h2
      ·exact .inl ⟨j,by omega,h2⟩
   ·have hyes:∃ j,j < k/\Rch ns j k:=by
     rw [<- hsn];simpa using hb
    refine ⟨by omega,sn,ls,_,_,rfl,s1,hl1,?_,by omega,fun c=>?_⟩
    ·rw [(qcK ns k).1 hyes];exact hall
    ·rw [hsn];constructor
     ·rintro ⟨j,h1,h2⟩;exact ⟨j,by omega,h2⟩
     ·rintro ⟨j,h1,h2⟩;by_cases hjk:j=k
      ·subst hjk;obtain ⟨i,hi,hr⟩:=hyes;exact ⟨i,hi,hr.trans h2⟩
      ·exact ⟨j,by omega,h2⟩
  ·obtain ⟨_,sn,ls,x3,x4,rfl,s1,hl1,hall,_,_⟩:=hp;ext;exact q l ls H1 s1 hl hl1 hall
theorem KE:FnScope ["self","ties","one","other"] ["self"] (qg qak):=fS
theorem qea (hn:ss.Nodup) {b:Nat} (h:s∈inB ss 0 b):s∈ss/\b.testBit (ss.idxOf s)=true:=by
 rw [zy hn] at h;exact yp.mp h
noncomputable def qe8 (ss:List Str) (ns:List Nat) (i:Nat):List (Str×Str):=((inB ss 0 (ns.getD i 0)).filter fun o=>decide (i < ss.idxOf o)).map fun o=>(ss.getD i "",o)
noncomputable def qR (ss:List Str) (ns:List Nat) (i:Nat):List (Str×Str):=(List.range i).flatMap (qe8 ss ns)
noncomputable def PrAt (H H':Hp) (l:Addr) (t:Addr) (ab:Str×Str):Prop:=H t=none/\t≠l/\H' t=some (.tup [.str ab.1,.str ab.2])
theorem PrAt.same {t:Addr} (h:PrAt H H1 l t ab) (s:L2.Same H1 H2):PrAt H H2 l t ab:=⟨h.1,h.2.1,s _ _ h.2.2⟩
inductive spTs (cw:Addr) (vs:List V) (H:Hp) (Q:VK) (E:XK):Prop|mk (x:Addr) (ss:List Str) (ns:List Nat) (_:vs=[.ref x]) (_:WebAt cw H x ss ns) (_:∀ (l:Addr) (ts:List Addr) (H':Hp),L2.Same H H'->H l=none->H' l=some (.lst (ts.map V.ref))->ts.length<=196->All2 (PrAt H H' l) ts (qR ss ns ss.length)->Q (.ref l) H')
theorem ok_ts (F:Fun K "ties" "Web.ties" qak f fd) (T:Txt K mg cc cw) (Kp:MethOk P w K mg base CX0 6 cw "beside" ["self","place"] (spBs cw)):FnOk P w K mg base CX0 7 f fd ["self"] (spTs cw):=by
 refine F.ok KE fun _ _ _ _ H vs Q E hr h=>?_
 ·obtain ⟨x,ss,ns,rfl,hW,q⟩:=h;have hu:=jP hr;obtain ⟨dx,d,ol,n,hx,hd,ho,hn,hw⟩:=id hW;have few:=hw.few
  have num:∀ (H1:Hp) (y:Str) (i:Nat),L2.Same H H1->ss[i]?=some y->DGet H1 d (.str y) (some (.int (i:Nat))):=fun H1 y i s1 gi=>by
   obtain ⟨j,hj,gj,vj⟩:=jT (i:=0) (ye gi);rw [xB] at vj;have hji:j=i:=qz hw.nd gj gi;subst hji;have:=DGet.k (k:=Sum.inr y) (s1 _ _ hd);rw [vj] at this;exact this
  refine ⟨_,(qc (qj (i:=1) KE.nd rfl (yE rfl) (qM qd))
 (qc (ji yV rfl (qQ (K:=K) rfl (qA (K:=K) rfl (pv 0) rfl)) (qq (i:=2) KE.nd rfl (yE rfl))
 (qe (ji yV rfl (qQ (K:=K) rfl (qE Kp (hmR hr) (pv 0) (qa (pv 2) qd))) (qq (i:=3) KE.nd rfl (yE rfl))
 (qe (qT (qo qcX (qr (qt (K:=K) rfl hu) (qA (K:=K) rfl (pv 0) rfl) (pv 2) (fun _ _=>rfl)) (qr (qt (K:=K) rfl hu) (qA (K:=K) rfl (pv 0) rfl) (pv 3) (fun _ _=>rfl)) (qB _)) (qe (qL (qaW (K:=K) rfl yD y0 Yb qI (pv 1) (qa (jA (qa (pv 2) (qa (pv 3) qd))) qd)))) qv)))))
 (qe (qm (pv 1))))),?_⟩
  ext;refine ⟨by decide,fun l hl=>?_⟩;have s0:=qF (Sr H) (o:=.lst []) hl;ext;refine .inl ⟨x,cw,dx,_,.ref ol,rfl,s0 _ _ hx,T.wcl,T.wo,qaJ,?_⟩;refine .inl ⟨⟨_,SqL.of (s0 _ _ ho)⟩,qV (K:=K) (fun i σ H'=>∃ (ts:List Addr) (x2 x3:Option V),σ=[some (.ref x),some (.ref l),x2,x3]/\L2.Same H H'/\H' l=some (.lst (ts.map V.ref))/\ts.length<=i * 14/\All2 (PrAt H H' l) ts (qR ss ns i))
   ⟨[],none,none,rfl,s0,qb,by simp,All2.nil⟩ (fun i σ H' _ hp=>by obtain ⟨_,_,_,_,z,_⟩:=hp;exact SqL.of (z _ _ ho)) (fun i y σ H1 hy hp=>?_) fun σ H1 hp=>?_⟩
  ·obtain ⟨ts,x2,x3,rfl,s1,hl1,hlen,hall⟩:=hp;have hi:i < ss.length:=by simpa using (yc.mp hy).1
   have gi:ss[i]?=some ss[i]:=yb hi;generalize ss[i]=sy at gi;have ey:y=.str sy:=by rw [yd,gi] at hy;cases hy;rfl
   subst ey;have hny:=hw.nm sy (ye gi);ext;refine ⟨x,dx,_,rfl,s1 _ _ hx,jU (by decide +kernel),?_⟩;ext;refine ⟨x,ss,ns,sy,i,rfl,hW.same s1,gi,fun H2 s2 b hb=>?_⟩;have s3:=s1.trans s2;have s4:=qF s3 (o:=.lst ((inB ss 0 (ns.getD i 0)).map V.str)) hb;have s24:=qF s2 (o:=.lst ((inB ss 0 (ns.getD i 0)).map V.str)) hb;have eb:upd H2 b (.lst ((inB ss 0 (ns.getD i 0)).map V.str)) b=some (.lst ((inB ss 0 (ns.getD i 0)).map V.str)):=qb;have nbl:b≠l:=fun e=>by rw [e,s2 _ _ hl1] at hb;cases hb
   have hb0:H b=none:=s3.free hb;refine .inl ⟨⟨_,SqL.of qb⟩,?_⟩;generalize upd H2 b (.lst ((inB ss 0 (ns.getD i 0)).map V.str))=H3 at s4 s24 eb ⊢;have hmem:∀ o,o∈inB ss 0 (ns.getD i 0)->o∈ss:=fun o h=>(qea hw.nd h).1;have hbl:=qaZ (ns.getD i 0) ss 0;have edef:qe8 ss ns i=((inB ss 0 (ns.getD i 0)).filter fun o=>decide (i < ss.idxOf o)).map fun o=>(ss.getD i "",o):=rfl;have egd:ss.getD i ""=sy:=by simp [List.getD,gi]
   rw [egd] at edef;generalize hbs:inB ss 0 (ns.getD i 0)=bs at eb hmem hbl edef ⊢;refine qV (K:=K) (fun k σ H'=>∃ (us:List Addr) (x3:Option V),σ=[some (.ref x),some (.ref l),some (.str sy),x3]/\L2.Same H H'/\H' b=some (.lst (bs.map V.str))/\H' l=some (.lst (us.map V.ref))/\us.length<=i * 14 + k/\All2 (PrAt H H' l) us (qR ss ns i++((bs.take k).filter fun o=>decide (i < ss.idxOf o)).map fun o=>(sy,o)))
    ⟨ts,_,rfl,s4,eb,s24 _ _ hl1,hlen,by simpa using hall.mono fun _ _ h=>h.same s24⟩ (fun k σ H' _ hp=>by obtain ⟨_,_,_,_,z,_⟩:=hp;exact SqL.of z) (fun k u σ H5 hu5 hp=>?_) fun σ H5 hp=>?_
   ·obtain ⟨us,x3,rfl,s5,eb5,hl5,hlen5,hall5⟩:=hp;have hk:k < bs.length:=by simpa using (yc.mp hu5).1
    have gk:bs[k]?=some bs[k]:=yb hk;generalize bs[k]=so at gk;have eu:u=.str so:=by rw [yd,gk] at hu5;cases hu5;rfl
    subst eu;have hso:=hmem so (ye gk);have hil:=YE hso;have gso:ss[ss.idxOf so]?=some so:=by rw [yb hil,YY]
    have htk:bs.take (k + 1)=bs.take k++[so]:=by rw [yH,gk];rfl
    ext;refine .inl ⟨x,cw,dx,_,.ref d,rfl,s5 _ _ hx,T.wcl,T.wn,jN,?_⟩;ext;refine .inr ⟨d,.int i,rfl,num H5 sy i s5 gi,?_⟩;ext;refine .inl ⟨x,cw,dx,_,.ref d,rfl,s5 _ _ hx,T.wcl,T.wn,jN,?_⟩;ext;refine .inr ⟨d,.int (ss.idxOf so:Nat),rfl,num H5 so _ s5 gso,?_⟩;ext;refine qP (fun hlt=>?_) fun hlt=>?_
    ·have hlt':i < ss.idxOf so:=by have:=yk hlt;omega
     ext;refine ⟨.inl ⟨rfl,_,SqL.of hl5⟩,?_⟩;ext;refine ⟨by show 2<=sizeLine;decide,fun t ht=>?_⟩;have nlt:l≠t:=qD hl5 ht;have nbt:b≠t:=qD eb5 ht;have s6:=qF (Sr H5) (o:=.tup [.str sy,.str so]) ht;ext;refine ⟨l,_,_,rfl,rfl,by rw [qf nlt];exact hl5,by rw [ya];exact qi (by have:i * 14<=14 * 14:=Nat.mul_le_mul_right 14 (by omega);omega),?_⟩;refine ⟨us++[t],_,rfl,qaH (s5.trans s6) hl,by rw [qf nbl,qf nbt];exact eb5,by rw [qb,yu];rfl,by rw [yt];show us.length + 1<=_;omega,?_⟩;rw [htk,yW,yu,<- Yj];have e1:([so].filter fun o=>decide (i < ss.idxOf o)).map (fun o=>(sy,o))=[(sy,so)]:=by simp [hlt']
     rw [e1];refine All2.snoc (hall5.mono fun t' ab h=>⟨h.1,h.2.1,?_⟩) ⟨s5.free ht,nlt.symm,?_⟩
     ·rw [qf h.2.1];exact s6 _ _ h.2.2
     ·rw [qf nlt.symm,qb]
    ·have hlt':¬ i < ss.idxOf so:=fun h=>hlt (yG (by omega));refine ⟨us,_,rfl,s5,eb5,hl5,by omega,?_⟩;have e1:([so].filter fun o=>decide (i < ss.idxOf o)).map (fun o=>(sy,o))=[]:=by simp [hlt']
     rw [htk,yW,yu,e1,Yi];exact hall5
   ·obtain ⟨us,x3,rfl,s5,eb5,hl5,hlen5,hall5⟩:=hp;rw [ya,yM] at hall5;rw [ya] at hlen5;refine ⟨us,_,_,rfl,s5,hl5,by omega,?_⟩;unfold qR at hall5 ⊢;rw [YN,xK];have e1:[i].flatMap (qe8 ss ns)=(bs.filter fun o=>decide (i < ss.idxOf o)).map fun o=>(sy,o):=by rw [<- edef];simp
    rw [e1];exact hall5
  ·obtain ⟨ts,x2,x3,rfl,s1,hl1,hlen,hall⟩:=hp;rw [ya] at hlen hall;ext;exact q l ts H1 s1 hl hl1 (by have:ss.length * 14<=14 * 14:=Nat.mul_le_mul_right 14 few;omega) hall
noncomputable def Box (H:Hp) (p:Addr):Prop:=∃ a b c:Int,H p=some (.lst [.int a,.int b,.int c])
noncomputable def BB (p:Addr) (H H':Hp):Prop:=(∀ b o,b≠p->H b=some o->H' b=some o)/\Box H' p
inductive spTake (vs:List V) (H:Hp) (Q:VK) (E:XK):Prop|mk (p:Addr) (m:Int) (_:vs=[.ref p,.int m]) (_:Box H p) (_:0 < m) (_:m < 1073741824) (_:∀ (r:Int) (H':Hp),0<=r->r < m->BB p H H'->Q (.int r) H')
inductive spCell (K:W.Frag) (vs:List V) (H:Hp) (Q:VK) (E:XK):Prop|mk (a:Addr) (ns:List Int) (k:Int) (_:vs=[.ref a,.int k]) (_:SqL K H a (ns.map V.int)) (_:0<=k) (_:k < 1000) (_:∀ i:Int,Q (.int i) H)
inductive spBox (vs:List V) (H:Hp) (Q:VK) (E:XK):Prop|mk (i:Int) (_:vs=[.int i]) (_:∀ (p:Addr) (a b c:Int),H p=none->Q (.ref p) (upd H p (.lst [.int a,.int b,.int c])))
noncomputable def NewH (H H':Hp):Hp:=fun a=>match H a with | none=>H' a | some _=>none
theorem zz:∀ {l m:List Str},l.Nodup->(∀ x∈l,x∈m)->l.length<=m.length
 | [],_,_,_=>YK _
 | x::r,m,hn,h=>by
  obtain ⟨h1,h2⟩:=yo.mp hn;have hx:=h x yZ;have ih:=zz (l:=r) (m:=m.erase x) h2 fun y hy=>(XV (fun e=>h1 (by rw [<- e];exact hy))).mpr (h y (yJ _ hy));rw [Y2 hx] at ih;have:0 < m.length:=xm hx;simp only [yA];omega
theorem qeb (c:Str) (ss:List Str):inV (.str c) (ss.map V.str)=decide (c∈ss):=by
 unfold inV;rw [kU,Yq,YX,yR];constructor
 ·rintro ⟨y,hy,e⟩;have:y=c:=eq_of_beq e;rw [<- this];exact hy
 ·intro h;exact ⟨c,h,xP c⟩
theorem flat_strs (ss:List Str):(ss.map V.str).all zM=true:=by rw [kG];exact YW.mpr fun _ _=>rfl
inductive spFresh (vs:List V) (H:Hp) (Q:VK) (E:XK):Prop|mk (l:Addr) (ss:List Str) (_:vs=[.ref l]) (_:H l=some (.lst (ss.map V.str))) (_:ss.length<=14) (_:∀ (x:Str) (H':Hp),L2.Same H H'->zG x=true->x∉ss->Q (.str x) H')
noncomputable def signs:List Str:=("abcdefghijklmno":Str).cps.toList.map fun c=>⟨#[c]⟩
theorem slice_ix (k n:Nat):Builtin.Str.strSliceIndices none (some (k:Int)) 1 n=List.range (min k n):=by
 unfold Builtin.Str.strSliceIndices sliceRange;simp only [show (1:Int) > 0 by decide,Xz];rw [yC (show ¬ ((k:Int) < 0) by omega)];have e1:max 0 (min (k:Int) n)=((min k n:Nat):Int):=by omega
 rw [e1];have e2:(fun (j:Nat)=>((0:Int) + 1 * (j:Int)).toNat)=id:=by funext j;show _=j;omega
 rw [e2,List.map_id]
 congr 1
 split
 ·rw [Int.ediv_one];omega
 ·omega
theorem qec (a:Array Nat):∀ m,m<=a.size->(List.range m).filterMap (a[·]?)=a.toList.take m
 | 0,_=>rfl
 | m + 1,h=>by
  rw [YN,List.filterMap_append,qec a m (by omega),yH]
  congr 1
  have e:a[m]?=some a[m]:=xu (by omega);have e':a.toList[m]?=some a[m]:=by rw [xt];exact e
  rw [e',Xn,e];rfl
theorem qa0 (z:Str) (k:Nat):(Txt.slice z none (some (k:Int))).cps.toList=z.cps.toList.take k:=by
 unfold Txt.slice;rw [slice_ix];have hz:z.length=z.cps.toList.length:=by simp [Str.length]
 split
 ·rename_i h
  rw [xC] at h;have:min k z.length=z.length:=by simpa using h
  rw [YI (by omega)]
 ·show (List.filterMap _ _).toArray.toList=_;rw [qec z.cps (min k z.length) (ky _ _)];show z.cps.toList.take (min k z.length)=_;by_cases hk:k<=z.length
  ·rw [kL hk]
  ·rw [kB (by omega),YI (by omega),YI (by omega)]
theorem qaK (a b:Str):(a++b).cps.toList=a.cps.toList++b.cps.toList:=by
 show (a.cps++b.cps).toList=_;exact Array.toList_append
theorem qdB:∀ {xs:List Str},(∀ x∈xs,x.cps.toList.all sg=true)->(Str.join "" xs).cps.toList.all sg=true
 | [],_=>rfl
 | [x],h=>h x (by simp)
 | x::y::r,h=>by
  have e:Str.join "" (x::y::r)=x++""++Str.join "" (y::r):=rfl;rw [e,qaK,qaK,X2,X2,h x (by simp),qdB fun z hz=>h z (yJ _ hz)]
  decide +kernel
theorem qfF {c:Nat} (h:97<=c) (h2:c<=122):sg c=true:=by
 have key:∀ i,i < 26->sg (97 + i)=true:=by decide +kernel
 have:=key (c - 97) (by omega)
 rwa [show 97 + (c - 97)=c by omega] at this
theorem join_len {xs:List Str} (h:∀ x∈xs,x.length=1):(Txt.join "" xs).length=xs.length:=by
 have e:Txt.join "" xs=Str.join "" xs:=Yo.mp (join_plain_closes "" xs);rw [e]
 cases xs with
 | nil=>rfl
 | cons a l =>
  rw [len_join_cons]
  have key:∀ l:List Str,(∀ x∈l,x.length=1)->(l.map (·.length)).sum=l.length:=by
   intro l
   induction l with
   | nil=>intro _;rfl
   | cons a l ih =>
    intro h;rw [Yy,ku,h a yZ,ih fun x hx=>h x (yJ _ hx),yA];omega
  have z:("":Str).length=0:=by decide +kernel
  rw [key _ h,z];omega
theorem sum_ones {xs:List Str} (h:∀ x∈xs,x.length=1):(xs.map (·.length)).sum=xs.length:=by
 induction xs with
 | nil=>rfl
 | cons a l ih =>
  rw [Yy,ku,h a yZ,ih fun x hx=>h x (yJ _ hx),yA];omega
noncomputable def Signs (p:Addr) (H:Hp) (i:Nat) (ys:List V) (H':Hp):Prop:=BB p H H'/\∃ xs:List Str,ys=xs.map V.str/\xs.length=i/\∀ x∈xs,x.length=1/\x.cps.toList.all sg=true
noncomputable def L26:Str:="abcdefghijklmnopqrstuvwxyz"
theorem qeQ {i:Int} (h0:0<=i) (h1:i < 26):atI L26.cps.toList i=some (97 + i.toNat):=by
 obtain ⟨n,rfl⟩:=Int.eq_ofNat_of_zero_le h0;have key:∀ n,n < 26->L26.cps.toList[n]?=some (97 + n):=by decide +kernel
 rw [Yd];exact qy (key n (by omega))
theorem qa8 {x:Str} {l:List Nat} (e:x.cps.toList=l) (h1:1<=l.length) (h6:l.length<=6) (h:l.all sg=true):zG x=true:=by
 have hl:x.length=l.length:=by rw [<- e];simp [Str.length]
 unfold zG;rw [yF ⟨by omega,by omega⟩,e];exact h
theorem nodup_key (h:∀ (i j:Nat) (s:Str),ss[i]?=some s->ss[j]?=some s->i=j):ss.Nodup:=by
 refine xv.mpr fun i j hi hj hij e=>?_;have:=h i j ss[j] (by rw [yb hi,e]) (yb hj);omega
noncomputable def NL (p:Addr) (H':Hp) (l:Addr) (ss:List Str):Prop:=H' l=some (.lst (ss.map V.str))/\l≠p
structure NOk (ss:List Str):Prop where
 few:ss.length<=14
 nd:ss.Nodup
 nm:∀ s∈ss,zG s=true
noncomputable def PrT (p:Addr) (H:Hp) (t:Addr) (ab:Str×Str):Prop:=t≠p/\H t=some (.tup [.str ab.1,.str ab.2])
noncomputable def TL (p:Addr) (H:Hp) (l:Addr) (ts:List Addr) (tps:List (Str×Str)):Prop:=H l=some (.lst (ts.map V.ref))/\l≠p/\All2 (PrT p H) ts tps
theorem qcL (f:α->β):∀ (l:List α) (k:Nat),(l.map f).eraseIdx k=(l.eraseIdx k).map f
 | [],_=>rfl
 | _::_,0=>rfl
 | a::r,k + 1=>congrArg (f a::·) (qcL f r k)
theorem qbV:∀ (l:List α) (k:Nat) (h:k < l.length),(l[k]::l.eraseIdx k).Perm l
 | [],_,h=>absurd h (Nat.not_lt_zero _)
 | a::r,0,_=>.refl _
 | a::r,k + 1,h=>(List.Perm.swap a _ _).trans (.cons a (qbV r k (Nat.lt_of_succ_lt_succ h)))
structure TOk (ss:List Str) (tps:List (Str×Str)):Prop where
 few:tps.length<=30
 ok:∀ ab∈tps,∃ j k:Nat,j < k/\ss[j]?=some ab.1/\ss[k]?=some ab.2
 nd:tps.Nodup
inductive spTies (vs:List V) (H:Hp) (Q:VK) (E:XK):Prop|mk (p n:Addr) (ss:List Str) (_:vs=[.ref p,.ref n]) (_:Box H p) (_:NL p H n ss) (_:NOk ss) (_:∀ (l:Addr) (ts:List Addr) (tps:List (Str×Str)) (H':Hp),BB p H H'->H l=none->TL p H' l ts tps->TOk ss tps->Q (.ref l) H')
noncomputable def Shuf (tps ups:List (Str×Str)):Prop:=∃ qps,ups.Perm qps/\All2 (fun a b=>b=a\/b=(a.2,a.1)) tps qps
inductive spShuf (vs:List V) (H:Hp) (Q:VK) (E:XK):Prop|mk (p l:Addr) (ts:List Addr) (tps:List (Str×Str)) (_:vs=[.ref p,.ref l]) (_:Box H p) (_:TL p H l ts tps) (_:tps.length<=30) (_:∀ (l':Addr) (us:List Addr) (ups:List (Str×Str)) (H':Hp),BB p H H'->H l'=none->TL p H' l' us ups->Shuf tps ups->Q (.ref l') H')
theorem ne_nil {z:Addr} {Q:VK} (hl:H l=some (.lst xs)) (hz:H z=some (.lst [])) (q:Q (.bl (!xs.isEmpty)) H):qe7 K true (.ref l) (.ref z) H Q:=by
 cases xs with
 | nil=>exact .inr (.inl ⟨l,z,true,1,rfl,rfl,by decide,EqT.lst (n:=0) (e:=fun _=>true) (SqL.of hl) (SqL.of hz) rfl fun j x y h=>by (simp at h),q⟩)
 | cons x r=>exact .inr (.inl ⟨l,z,false,1,rfl,rfl,by decide,EqT.lstL (SqL.of hl) (SqL.of hz) (by simp),q⟩)
theorem pair_eqD {a b:Addr} {s' t':Str} (hb:H b=some (.tup [.str s',.str t'])) (ha:H a=some (.tup [.str s,.str t])):EqD K H 1 (.ref b) (.ref a) (decide ((s',t')=(s,t))):=by
 by_cases e:b=a
 ·subst e;rw [hb] at ha;cases ha;rw [yG rfl];exact .self
 ·have z:=EqT.tup (K:=K) (H:=H) (n:=0) (e:=fun j=>if j=0 then eqV (.str s') (.str s) else eqV (.str t') (.str t)) (SqT.of hb) (SqT.of ha) fun j x y hx hy=>by
   match j,hx,hy with
   | 0,hx,hy=>cases hx;cases hy;exact .flat rfl rfl
   | 1,hx,hy=>cases hx;cases hy;exact .flat rfl rfl
  have ev:((List.range (min [V.str s',V.str t'].length [V.str s,V.str t].length)).all (fun j=>if j=0 then eqV (.str s') (.str s) else eqV (.str t') (.str t))&&[V.str s',V.str t'].length==[V.str s,V.str t].length)=decide ((s',t')=(s,t)):=by
   show ((s'==s)&&((t'==t)&&true)&&true)=_;rw [Yq];simp
  rw [ev] at z;exact .deep z e
noncomputable def qdT (H:Hp) (z:V):Option (Str×Str):=match z with
 | .ref t=>(match H t with
  | some (.tup [.str a,.str b])=>some (a,b)
  | _=>none)
 | _=>none
theorem qb7 {t:Addr} (h:H t=some (.tup [.str a,.str b])):qdT H (.ref t)=some (a,b):=by
 unfold qdT;dsimp only;rw [h]
theorem any_in (h:All2 (fun t ab=>H t=some (.tup [.str ab.1,.str ab.2])) ts tps) (st:Str×Str):((ts.map V.ref).any fun z=>decide (qdT H z=some st))=decide (st∈tps):=by
 rw [Yq,YX,yR];constructor
 ·rintro ⟨z,hz,e⟩;obtain ⟨t,ht,rfl⟩:=yQ.mp hz;obtain ⟨ab,hab,r⟩:=h.mem ht;have e:=yk e;rw [qb7 r] at e;cases e;exact hab
 ·intro hm;obtain ⟨k,hk,e⟩:=Xq hm;have hk':k < ts.length:=by rw [h.len];exact hk
  have r:=h.at_ k ts[k] tps[k] (yb hk') (yb hk);refine ⟨.ref ts[k],yQ.mpr ⟨_,Y0 hk',rfl⟩,yG ?_⟩;rw [qb7 r,e]
theorem pl_in {a:Addr} {Q:VK} (h:PL H l ts tps) (ha:H a=some (.tup [.str s,.str t])) (q:Q (.bl (decide ((s,t)∈tps))) H):qev K false (.ref a) (.ref l) H Q:=by
 refine .inr (.inr ⟨l,ts.map V.ref,fun z=>decide (qdT H z=some (s,t)),1,rfl,SqL.of h.1,by decide,fun z hz=>?_,?_⟩)
 ·obtain ⟨b,hb,rfl⟩:=yQ.mp hz;obtain ⟨ab,_,r⟩:=h.2.mem hb;have e:=pair_eqD (K:=K) r ha
  have ee:decide (qdT H (.ref b)=some (s,t))=decide ((ab.1,ab.2)=(s,t)):=by
   rw [qb7 r];apply Yp.mpr;rw [Option.some.injEq]
  show EqD K H 1 (.ref b) (.ref a) (decide (qdT H (.ref b)=some (s,t)));rw [ee];exact e
 ·rw [any_in h.2];exact q
theorem jO {y:V} (hy:(ss.map V.str)[i]?=some y):∃ s,ss[i]?=some s/\y=.str s:=by
 rw [yd] at hy
 cases h:ss[i]? with
 | none=>rw [h] at hy;cases hy
 | some s=>rw [h] at hy;cases hy;exact ⟨s,rfl,rfl⟩
noncomputable def Adj (ss:List Str) (ns:List Nat) (tps:List (Str×Str)):Prop:=∀ a b s t,ss[a]?=some s->ss[b]?=some t->((ns.getD a 0).testBit b=true↔((s,t)∈tps\/(t,s)∈tps))
theorem KM:FnScope ["web","thing","paired","tie"] ["web","thing"] (qg zI):=fS
theorem uo:FnScope ["self","thing"] ["self","thing"] (qg j4):=fS
noncomputable def qb8 (seen:List Str):List (Key×V):=seen.map fun s=>(.inr s,.bl true)
theorem zV (y:Str):∀ seen:List Str,(jS (qb8 seen) (.inr y:Key)).isSome=decide (y∈seen)
 | []=>rfl
 | s::r=>by
  by_cases e:s=y
  ·subst e;show (jS (((.inr s:Key),V.bl true)::qb8 r) _).isSome=_;rw [yG (by simp)];simp [jS]
  ·show (jS (((.inr s:Key),V.bl true)::qb8 r) _).isSome=_;rw [q8 (p:=((.inr s:Key),V.bl true)) (fun z=>e (xn z)),zV y r];apply Yp.mpr;simp [Yn e]
theorem qb9 {seen:List Str} (h:y∉seen):zD (qb8 seen) (.inr y:Key) (.bl true)=qb8 (seen++[y]):=by
 have:jS (qb8 seen) (.inr y:Key)=none:=by
  have:=zV y seen;rw [yl h] at this;exact Option.isNone_iff_eq_none.mp (by rw [<- Option.not_isSome,this];rfl)
 rw [qa5 _ this];unfold qb8;rw [yu];rfl
noncomputable def qu (qs:List (Str×Str)):List Str:=qs.flatMap fun q=>[q.1,q.2]
noncomputable def prK (qs:List (Str×Str)):List (Key×V):=qs.flatMap fun q=>[(.inr q.1,.str q.2),(.inr q.2,.str q.1)]
noncomputable def pt:List (Str×Str)->Str->Option Str
 | [],_=>none
 | q::r,s=>if q.1=s then some q.2 else if q.2=s then some q.1 else pt r s
theorem jD (s:Str):∀ qs,jS (prK qs) (.inr s:Key)=(pt qs s).map V.str
 | []=>rfl
 | q::r=>by
  show jS (((.inr q.1:Key),V.str q.2)::((.inr q.2:Key),V.str q.1)::prK r) _=(pt (q::r) s).map V.str;unfold pt;by_cases h1:q.1=s
  ·rw [jl (p:=((.inr q.1:Key),V.str q.2)) (congrArg Sum.inr h1),yF h1];rfl
  ·rw [q8 (p:=((.inr q.1:Key),V.str q.2)) (fun z=>h1 (xn z)),yC h1];by_cases h2:q.2=s
   ·rw [jl (p:=((.inr q.2:Key),V.str q.1)) (congrArg Sum.inr h2),yF h2];rfl
   ·rw [q8 (p:=((.inr q.2:Key),V.str q.1)) (fun z=>h2 (xn z)),yC h2,jD s r]
theorem pt_none:∀ {qs:List (Str×Str)},pt qs s=none↔s∉qu qs
 | []=>by simp [pt,qu]
 | q::r=>by
  have e:qu (q::r)=q.1::q.2::qu r:=rfl;rw [e];unfold pt;by_cases h1:q.1=s
  ·rw [yF h1];simp [h1]
  ·rw [yC h1];by_cases h2:q.2=s
   ·rw [yF h2];simp [h2]
   ·rw [yC h2,pt_none];simp only [yB,not_or];exact ⟨fun z=>⟨Yn h1,Yn h2,z⟩,fun z=>z.2.2⟩
structure PGo (ss:List Str) (tps qs:List (Str×Str)):Prop where
 inn:∀ q∈qs,(q∈tps\/(q.2,q.1)∈tps)/\q.1∈ss/\q.2∈ss/\q.1≠q.2
 nd:(qu qs).Nodup
 few:qs.length<=30
theorem qar (qs:List (Str×Str)):(qu qs).length=2 * qs.length:=by
 induction qs with
 | nil=>rfl
 | cons q r ih=>show (q.1::q.2::qu r).length=_;simp only [yA];omega
theorem zq (qs:List (Str×Str)) (q:Str×Str):qu (qs++[q])=qu qs++[q.1,q.2]:=by
 unfold qu;rw [xK];rfl
theorem PGo.new (g:PGo ss tps qs) (h:qs[i]?=some ab):qs.take (i + 1)=qs.take i++[ab]/\(qu (qs.take i++[ab])).Nodup/\ab.1∉qu (qs.take i)/\ab.2∉qu (qs.take i):=by
 have htk:qs.take (i + 1)=qs.take i++[ab]:=by rw [yH,h];rfl
 have hnd:(qu (qs.take i++[ab])).Nodup:=by
  rw [<- htk];have:qu qs=qu (qs.take (i + 1))++qu (qs.drop (i + 1)):=by unfold qu;rw [<- xK,XG]
  have hn:=g.nd;rw [this] at hn;exact (Yg.mp hn).1
 have h3:=hnd;rw [zq] at h3;have h4:=(Yg.mp h3).2.2;exact ⟨htk,hnd,fun z=>h4 _ z ab.1 (by simp) rfl,fun z=>h4 _ z ab.2 (by simp) rfl⟩
inductive spHt (cw:Addr) (vs:List V) (H:Hp) (Q:VK) (E:XK):Prop|mk (x t:Addr) (ss:List Str) (ns:List Nat) (tps:List (Str×Str)) (ab:Str×Str) (_:vs=[.ref x,.ref t]) (_:WebAt cw H x ss ns) (_:Adj ss ns tps) (_:H t=some (.tup [.str ab.1,.str ab.2])) (_:(ab∈tps\/(ab.2,ab.1)∈tps)) (_:ab.1∈ss) (_:ab.2∈ss) (_:ab.1≠ab.2) (_:∀ H',L2.Same H H'->Q (.bl true) H')
inductive spAp (cw:Addr) (vs:List V) (H:Hp) (Q:VK) (E:XK):Prop|mk (x l:Addr) (ss:List Str) (ns:List Nat) (us:List Addr) (tps qs:List (Str×Str)) (_:vs=[.ref x,.ref l]) (_:WebAt cw H x ss ns) (_:Adj ss ns tps) (_:PL H l us qs) (_:PGo ss tps qs) (_:∀ H',L2.Same H H'->Q (.bl true) H')
theorem ok_ht (F:Fun K "has_tie" "Web.has_tie" j4 f fd) (T:Txt K mg cc cw) (Ks:DefOk P w K mg base CX0 3 "are_two_places" ["numbers","thing"] spTwo) (uU:MethOk P w K mg base CX0 6 cw "tied" ["self","one","other"] (spTied cw)):FnOk P w K mg base CX0 7 f fd ["self","thing"] (spHt cw):=by
 refine F.ok uo fun _ _ _ _ H vs Q E hr h=>?_
 ·obtain ⟨x,t,ss,ns,tps,ab,rfl,hW,hA,et,hab,m1,m2,hne,q⟩:=h;have hu:=jP hr;obtain ⟨wx,dd,ol,nn,hb,hdd,hol,hnn,hw⟩:=id hW;refine ⟨_,(qe (qm (qcj (qk Ks (hmR hr) qw (qa (qA (K:=K) rfl (pv 0) rfl) (qa (pv 1) qd))) (qbL (qE uU (hmR hr) (pv 0) (qa (qr (qt (K:=K) rfl hu) (pv 1) qh (fun _ _=>rfl)) (qa (qr (qt (K:=K) rfl hu) (pv 1) qh (fun _ _=>rfl)) qd))))))),?_⟩;ext;refine .inl ⟨x,cw,wx,_,.ref dd,rfl,hb,T.wcl,T.wn,jN,?_⟩;ext;refine ⟨dd,t,ss,ab.1,ab.2,rfl,hdd,et,hw.nm _ m1,hw.nm _ m2,m1,m2,hne,fun H1 s1=>?_⟩;refine ⟨true,rfl,zN ?_⟩;have et1:=s1 _ _ et;ext;refine ⟨x,wx,_,rfl,s1 _ _ hb,jU (by decide +kernel),?_⟩;ext;refine .inl (qat et1 (v:=.str ab.1) (qy (j:=0) rfl) ?_);ext;refine .inl (qat et1 (v:=.str ab.2) (qy (j:=1) rfl) ?_);ext;obtain ⟨j,gj⟩:=yf m1;obtain ⟨i,gi⟩:=yf m2;refine ⟨x,ss,ns,ab.1,ab.2,j,i,rfl,hW.same s1,gj,gi,fun H2 s2=>?_⟩;rw [(hA j i ab.1 ab.2 gj gi).mpr hab];exact q H2 (s1.trans s2)
theorem ok_ap (F:Fun K "are_pairs" "are_pairs" zI f fd) (T:Txt K mg cc cw) (KI:MethOk P w K mg base CX0 7 cw "has_tie" ["self","thing"] (spHt cw)):FnOk P w K mg base CX0 8 f fd ["web","thing"] (spAp cw):=by
 refine F.ok KM fun _ _ _ _ H vs Q E hr h=>?_
 ·obtain ⟨x,l,ss,ns,us,tps,qs,rfl,hW,hA,⟨hl,hal⟩,g,q⟩:=h;have hu:=jP hr;obtain ⟨wx,dd,ol,nn,hb,_⟩:=id hW;have few:=g.few;have hul:=hal.len;refine ⟨_,(qc (qT (je (qZ (qp (qbT (K:=K) rfl) rfl T.b_isinstance YT (qa (pv 1) (qa (jX (v:=.ty "list") rfl T.b_list Xa rfl) qd))))) (qe (qm za)) qv)
 (qc (qj (i:=2) KM.nd rfl (yE rfl) jZ)
 (qc (ji yV rfl (qQ (K:=K) rfl (pv 1)) (qq (i:=3) KM.nd rfl (yE rfl))
 (qc (qT (PW.pt (qbI (je (qZ (qE KI (hmR hr) (pv 0) (qa (pv 3) qd)))) (qbI (qo (zS (K:=K) rfl hu) (qr (qt (K:=K) rfl hu) (pv 3) qh (fun _ _=>rfl)) (pv 2) (by with_unfolding_all rfl)) (qax (qo (zS (K:=K) rfl hu) (qr (qt (K:=K) rfl hu) (pv 3) qh (fun _ _=>rfl)) (pv 2) (by with_unfolding_all rfl)))))) (qe (qm za)) qv)
 (qc (jK za (jJ (pv 2) (qr (qt (K:=K) rfl hu) (pv 3) qh (fun _ _=>rfl)) (jL hu)))
 (qe (jK za (jJ (pv 2) (qr (qt (K:=K) rfl hu) (pv 3) qh (fun _ _=>rfl)) (jL hu)))))))
 (qe (qm za))))),?_⟩
  ext;refine qdS (.inl (.lst hl)) rfl (qaX K "list" (by simp) "list" (by simp)) ?_;ext;refine yq ?_;ext;intro d hd;have s0:=qF (Sr H) (o:=.dK []) hd;have ed:upd H d (.dK []) d=some (.dK (qb8 [])):=qb;generalize upd H d (.dK [])=H1 at s0 ed;ext;refine .inl ⟨⟨_,.of (s0 _ _ hl)⟩,qV (xs:=us.map V.ref) (fun i σ J=>L2.Same H J/\∃ y3,σ=[some (.ref x),some (.ref l),some (.ref d),y3]/\J d=some (.dK (qb8 (qu (qs.take i))))) ⟨s0,_,rfl,ed⟩ (fun i σ J _ hp=>.of (hp.1 _ _ hl)) (fun i y σ J hy hp=>?_) fun σ J hp=>?_⟩
  ·obtain ⟨sJ,y3,rfl,edJ⟩:=hp;rw [yd] at hy;obtain ⟨b,hb',rfl⟩:=yn.mp hy;have hi:i < us.length:=(yc.mp hb').1;obtain ⟨ab,hab⟩:∃ ab,qs[i]?=some ab:=⟨_,yb (by rw [<- hul];exact hi)⟩;have eb:=hal.at_ i b ab hb' hab;obtain ⟨ht,m1,m2,hne⟩:=g.inn ab (ye hab);obtain ⟨htk,hnd,n1,n2⟩:=g.new hab;have hsl:(qu (qs.take i)).length<=60:=by rw [qar,yL];omega
   have hbd:b≠d:=fun z=>by rw [z,hd] at eb;cases eb
   ext;refine ⟨x,wx,_,rfl,sJ _ _ hb,jU (by decide +kernel),?_⟩;ext;refine ⟨x,b,ss,ns,tps,ab,rfl,hW.same sJ,hA,sJ _ _ eb,ht,m1,m2,hne,fun J2 s2=>?_⟩;have s02:=sJ.trans s2;have eb2:=s02 _ _ eb;ext;refine yq ?_;ext;refine .inl (qat eb2 (v:=.str ab.1) (qy (j:=0) rfl) ?_);ext;refine .inr (.inl ⟨d,_,rfl,DGet.k (k:=Sum.inr ab.1) (s2 _ _ edJ),?_⟩);rw [yC (by decide),zV,yl n1];ext;refine yq ?_;ext;refine .inl (qat eb2 (v:=.str ab.2) (qy (j:=1) rfl) ?_);ext;refine .inr (.inl ⟨d,_,rfl,DGet.k (k:=Sum.inr ab.2) (s2 _ _ edJ),?_⟩);rw [yC (by decide),zV,yl n2];ext;refine yq ?_;ext;refine .inl (qat eb2 (v:=.str ab.1) (qy (j:=0) rfl) ?_);ext;refine .inr ⟨d,_,rfl,DPut.k (k:=Sum.inr ab.1) (s2 _ _ edJ) (by unfold qb8;rw [ya,YC];omega),?_⟩;rw [qb9 n1];have s3:=qaH s02 (o:=.dK (qb8 (qu (qs.take i)++[ab.1]))) hd;have e3:upd J2 d (.dK (qb8 (qu (qs.take i)++[ab.1]))) d=some (.dK (qb8 (qu (qs.take i)++[ab.1]))):=qb;have eb3:upd J2 d (.dK (qb8 (qu (qs.take i)++[ab.1]))) b=some (.tup [.str ab.1,.str ab.2]):=by rw [qf hbd];exact eb2
   generalize upd J2 d (.dK (qb8 (qu (qs.take i)++[ab.1])))=J3 at s3 e3 eb3;ext;refine .inl (qat eb3 (v:=.str ab.2) (qy (j:=1) rfl) ?_);ext;refine .inr ⟨d,_,rfl,DPut.k (k:=Sum.inr ab.2) e3 (by unfold qb8;rw [ya,yt,YC];simp only [yA,YM];omega),?_⟩;rw [qb9 (fun z=>by rcases yz.mp z with z | z;exact n2 z;exact hne (yy.mp z).symm)];exact ⟨qaH s3 hd,_,rfl,by rw [qb,htk,zq,Yj];rfl⟩
  ·obtain ⟨sJ,y3,rfl,edJ⟩:=hp;ext;exact q J sJ
theorem KB:FnScope ["web","pairs","partners","pair"] ["web","pairs"] (qg j5):=fS
theorem prK_len (qs:List (Str×Str)):(prK qs).length=2 * qs.length:=by
 induction qs with
 | nil=>rfl
 | cons q r ih=>show (_::_::prK r).length=_;simp only [yA];rw [ih];omega
theorem prK_snoc (qs:List (Str×Str)) (q:Str×Str):prK (qs++[q])=prK qs++[(.inr q.1,.str q.2),(.inr q.2,.str q.1)]:=by
 unfold prK;rw [xK];rfl
theorem prK_put {q:Str×Str} (h:(qu (qs++[q])).Nodup):zD (zD (prK qs) (.inr q.1:Key) (.str q.2)) (.inr q.2:Key) (.str q.1)=prK (qs++[q]):=by
 rw [zq] at h;obtain ⟨h1,h2,h3⟩:=Yg.mp h;have n1:q.1∉qu qs:=fun z=>h3 _ z _ (by simp) rfl;have n2:q.2∉qu qs:=fun z=>h3 _ z q.2 (by simp) rfl;have n3:q.1≠q.2:=by simp at h2;exact h2
 have v1:jS (prK qs) (.inr q.1:Key)=none:=by rw [jD,pt_none.mpr n1];rfl
 rw [qa5 _ v1]
 have v2:jS (prK qs++[((.inr q.1:Key),V.str q.2)]) (.inr q.2:Key)=none:=by
  have v2:jS (prK qs) (.inr q.2:Key)=none:=by rw [jD,pt_none.mpr n2];rfl
  unfold jS at v2 ⊢;rw [List.find?_append];have:(prK qs).find? (fun kv=>decide (kv.1=(.inr q.2:Key)))=none:=by simpa using v2
  rw [this];simp [n3]
 rw [qa5 _ v2,prK_snoc];simp
inductive spPn (cw:Addr) (vs:List V) (H:Hp) (Q:VK) (E:XK):Prop|mk (x l:Addr) (ss:List Str) (ns:List Nat) (us:List Addr) (tps qs:List (Str×Str)) (_:vs=[.ref x,.ref l]) (_:WebAt cw H x ss ns) (_:Adj ss ns tps) (_:PL H l us qs) (_:PGo ss tps qs) (_:∀ (d:Addr) (H':Hp),L2.Same H H'->H d=none->H' d=some (.dK (prK qs))->Q (.ref d) H')
theorem ok_pn (F:Fun K "partners_in" "partners_in" j5 f fd) (T:Txt K mg cc cw) (KR:DefOk P w K mg base CX0 8 "are_pairs" ["web","thing"] (spAp cw)):FnOk P w K mg base CX0 9 f fd ["web","pairs"] (spPn cw):=by
 refine F.ok KB fun _ _ _ _ H vs Q E hr h=>?_
 ·obtain ⟨x,l,ss,ns,us,tps,qs,rfl,hW,hA,⟨hl,hal⟩,g,q⟩:=h;have hu:=jP hr;have few:=g.few;have hul:=hal.len;refine ⟨_,(qc (qT (je (qZ (qk KR (hmR hr) qw (qa (pv 0) (qa (pv 1) qd))))) (qe jo) qv)
 (qc (qj (i:=2) KB.nd rfl (yE rfl) jZ)
 (qc (ji yV rfl (qQ (K:=K) rfl (pv 1)) (qq (i:=3) KB.nd rfl (yE rfl))
 (qc (jK (qr (qt (K:=K) rfl hu) (pv 3) qh (fun _ _=>rfl)) (jJ (pv 2) (qr (qt (K:=K) rfl hu) (pv 3) qh (fun _ _=>rfl)) (jL hu)))
 (qe (jK (qr (qt (K:=K) rfl hu) (pv 3) qh (fun _ _=>rfl)) (jJ (pv 2) (qr (qt (K:=K) rfl hu) (pv 3) qh (fun _ _=>rfl)) (jL hu))))))
 (qe (qm (pv 2)))))),?_⟩
  ext;refine ⟨x,l,ss,ns,us,tps,qs,rfl,hW,hA,⟨hl,hal⟩,g,fun H1 s1=>?_⟩;ext;refine yq ?_;ext;intro d hd;have hdH:=s1.free hd;have s2:=qF s1 (o:=.dK []) hd;have ed:upd H1 d (.dK []) d=some (.dK (prK [])):=qb;generalize upd H1 d (.dK [])=H2 at s2 ed;ext;refine .inl ⟨⟨_,.of (s2 _ _ hl)⟩,qV (xs:=us.map V.ref) (fun i σ J=>L2.Same H J/\∃ y3,σ=[some (.ref x),some (.ref l),some (.ref d),y3]/\J d=some (.dK (prK (qs.take i)))) ⟨s2,_,rfl,ed⟩ (fun i σ J _ hp=>.of (hp.1 _ _ hl)) (fun i y σ J hy hp=>?_) fun σ J hp=>?_⟩
  ·obtain ⟨sJ,y3,rfl,edJ⟩:=hp;rw [yd] at hy;obtain ⟨b,hb',rfl⟩:=yn.mp hy;have hi:i < us.length:=(yc.mp hb').1;obtain ⟨ab,hab⟩:∃ ab,qs[i]?=some ab:=⟨_,yb (by rw [<- hul];exact hi)⟩;have eb:=hal.at_ i b ab hb' hab;obtain ⟨htk,hnd,n1,n2⟩:=g.new hab;have hbd:b≠d:=fun z=>by rw [z,hdH] at eb;cases eb
   have ebJ:=sJ _ _ eb;have hl3:(prK (qs.take i)).length<=2000:=by rw [prK_len,yL];omega
   ext;refine .inl (qat ebJ (v:=.str ab.2) (qy (j:=1) rfl) ?_);ext;refine .inl (qat ebJ (v:=.str ab.1) (qy (j:=0) rfl) ?_);ext;refine .inr ⟨d,_,rfl,DPut.k (k:=Sum.inr ab.1) edJ (by rw [YC];omega),?_⟩;have s3:=qaH sJ (o:=.dK (zD (prK (qs.take i)) (Sum.inr ab.1) (.str ab.2))) hdH;have e3:upd J d (.dK (zD (prK (qs.take i)) (Sum.inr ab.1) (.str ab.2))) d=some (.dK (zD (prK (qs.take i)) (Sum.inr ab.1) (.str ab.2))):=qb;have eb3:upd J d (.dK (zD (prK (qs.take i)) (Sum.inr ab.1) (.str ab.2))) b=some (.tup [.str ab.1,.str ab.2]):=by rw [qf hbd];exact ebJ
   generalize upd J d (.dK (zD (prK (qs.take i)) (Sum.inr ab.1) (.str ab.2)))=J3 at s3 e3 eb3;ext;refine .inl (qat eb3 (v:=.str ab.1) (qy (j:=0) rfl) ?_);ext;refine .inl (qat eb3 (v:=.str ab.2) (qy (j:=1) rfl) ?_);ext;refine .inr ⟨d,_,rfl,DPut.k (k:=Sum.inr ab.2) e3 ?_,?_⟩
   ·have:=jm (prK (qs.take i)) (Sum.inr ab.1:Key) (.str ab.2);rw [YC];omega
   ·exact ⟨qaH s3 hdH,_,rfl,by rw [qb,prK_put hnd,htk]⟩
  ·obtain ⟨sJ,y3,rfl,edJ⟩:=hp;rw [ya,hul,yM] at edJ;ext;exact q d J sJ hdH edJ
structure Gr (A:Str->Str->Prop) (f:Str->Option Str):Prop where
 as:∀ {a b},A a b->A b a
 ir:∀ {a b},A a b->a≠b
 fs:∀ {a b},f a=some b->f b=some a
 fa:∀ {a b},f a=some b->A a b
structure FS where
 rows:Str->Option (List Str)
 par:Str->Option Str
 bas:Str->Str
noncomputable def Turns (A:Str->Str->Prop) (f:Str->Option Str) (r:List Str):Prop:=∀ (j:Nat) a b,r[j]?=some a->r[j + 1]?=some b->A a b/\(f a=some b↔j % 2=1)
structure Alt (A:Str->Str->Prop) (f:Str->Option Str) (r:List Str) (v:Str):Prop where
 nd:r.Nodup
 odd:r.length % 2=1
 hd:∀ s,r[0]?=some s->f s=none
 tl:∃ r0,r=r0++[v]
 st:Turns A f r
structure FI (A:Str->Str->Prop) (f:Str->Option Str) (S:FS):Prop where
 alt:∀ v r,S.rows v=some r->Alt A f r v
 bse:∀ v r,S.rows v=some r->∃ rb t,S.rows (S.bas v)=some rb/\r=rb++t/\∀ u∈t,S.bas u=S.bas v
 idm:∀ v r,S.rows v=some r->S.bas (S.bas v)=S.bas v
 dwn:∀ b r q,S.rows b=some r->S.bas b=b->f b=some q->S.rows q=none/\∃ z rz,S.par q=some z/\S.rows z=some rz/\r=rz++[q,b]
 mat:∀ v,S.bas v≠v->(∃ r,S.rows v=some r)/\∃ u,f v=some u/\S.bas u=S.bas v
 odd:∀ x z,S.par x=some z->A z x/\(∃ r,S.rows z=some r)/\∃ y r,f x=some y/\S.rows y=some r
section
variable {A:Str->Str->Prop} {f:Str->Option Str} {S:FS}
theorem FI.own (I:FI A f S) (h:S.rows v=none):S.bas v=v:=Yu fun z=>by
 obtain ⟨⟨r,e⟩,_⟩:=I.mat v z;rw [h] at e;cases e
theorem FI.evb (I:FI A f S) {r:List Str} (h:S.rows v=some r):∃ rb,S.rows (S.bas v)=some rb:=(I.bse v r h).elim fun rb z=>⟨rb,z.elim fun _ y=>y.1⟩
theorem FI.pair (I:FI A f S) {w:Str} {r s:List Str} (hv:S.rows v=some r) (hw:S.rows w=some s) (h:f v=some w):S.bas v=S.bas w:=by
 by_cases z:S.bas v=v
 ·have:=(I.dwn v r w hv z h).1;rw [hw] at this;cases this
 ·obtain ⟨_,u,hu,e⟩:=I.mat v z;rw [h] at hu;cases hu;exact e.symm
inductive Ch (f:Str->Option Str) (S:FS):Str->List Str->Prop
 | root {b:Str}:f b=none->Ch f S b [b]
 | step {b q z:Str} {l:List Str}:f b=some q->S.par q=some z->Ch f S (S.bas z) l->Ch f S b (b::l)
theorem Ch.one {l:List Str} (h:Ch f S b l):∀ {m},Ch f S b m->m=l:=by
 induction h with
 | root e=>intro m g;cases g with
  | root _=>rfl
  | step e' _ _=>rw [e] at e';cases e'
 | step e p _ ih=>intro m g;cases g with
  | root e'=>rw [e] at e';cases e'
  | step e' p' g'=>rw [e] at e';cases e';rw [p] at p';cases p';rw [ih g']
theorem Ch.ne {l:List Str} (h:Ch f S b l):∃ t,l=b::t:=by cases h<;>exact ⟨_,rfl⟩
theorem FI.chain (I:FI A f S):∀ (n:Nat) {b:Str} {r:List Str},r.length<=n->S.rows b=some r->S.bas b=b->∃ l,Ch f S b l
 | n,b,r,hn,hb,hbb=>by
  cases e:f b with
  | none=>exact ⟨_,.root e⟩
  | some q =>
   obtain ⟨_,z,rz,p,hz,er⟩:=I.dwn b r q hb hbb e;obtain ⟨rb,t,h1,h2,_⟩:=I.bse z rz hz;have hl:rb.length < n:=by rw [er,h2] at hn;simp at hn;omega
   match n,hl with
   | n + 1,hl =>
    obtain ⟨l,g⟩:=I.chain n (b:=S.bas z) (r:=rb) (by omega) h1 (I.idm z rz hz);exact ⟨_,.step e p g⟩
theorem FI.chainOf (I:FI A f S) {r:List Str} (h:S.rows v=some r):∃ l,Ch f S (S.bas v) l:=by
 obtain ⟨rb,e⟩:=I.evb h;exact I.chain _ (yh _) e (I.idm v r h)
noncomputable def Cov (f:Str->Option Str) (S:FS) (l:List Str) (u:Str):Prop:=∃ d∈l,S.bas u=d\/f d=some u
theorem Cov.mono {l m:List Str} (h:Cov f S l u) (hs:∀ d∈l,d∈m):Cov f S m u:=h.elim fun d z=>⟨d,hs d z.1,z.2⟩
theorem Ch.up (I:FI A f S) {l:List Str} (h:Ch f S b l):∀ {v:Str} {r:List Str},S.rows v=some r->S.bas v=b->∀ {l1 l2:List Str} {c:Str},l=l1++c::l2->∃ rc t,S.rows c=some rc/\S.bas c=c/\Ch f S c (c::l2)/\r=rc++t/\∀ u∈t,S.bas u=c\/Cov f S l1 u:=by
 induction h with
 | root e =>
  intro v r hv hb l1 l2 c el
  cases l1 with
  | cons x y=>exact absurd (congrArg List.length el) (by simp)
  | nil =>
   cases el;obtain ⟨rb,t,h1,h2,h3⟩:=I.bse v r hv;rw [hb] at h1 h3;exact ⟨rb,t,h1,by rw [<- hb];exact I.idm v r hv,.root e,h2,fun u hu=>.inl (h3 u hu)⟩
 | @step b q z l e p g ih =>
  intro v r hv hb l1 l2 c el;obtain ⟨rb,t,h1,h2,h3⟩:=I.bse v r hv;rw [hb] at h1 h3;have hbb:S.bas b=b:=by rw [<- hb];exact I.idm v r hv
  cases l1 with
  | nil =>
   cases el;exact ⟨rb,t,h1,hbb,.step e p g,h2,fun u hu=>.inl (h3 u hu)⟩
  | cons x y =>
   cases el;obtain ⟨hq,z',rz,p',hz,er⟩:=I.dwn b rb q h1 hbb e;rw [p] at p';cases p';obtain ⟨rc,t',k1,k2,k3,k4,k5⟩:=ih hz rfl rfl;refine ⟨rc,t'++[q,b]++t,k1,k2,k3,by rw [h2,er,k4];simp,fun u hu=>?_⟩;rcases yz.mp hu with hu | hu
   ·rcases yz.mp hu with hu | hu
    ·exact (k5 u hu).imp id fun z=>z.mono fun d hd=>yJ _ hd
    ·simp only [yB,yY,YB] at hu;rcases hu with rfl | rfl
     ·exact .inr ⟨b,yZ,.inr e⟩
     ·exact .inr ⟨_,yZ,.inl hbb⟩
   ·exact .inr ⟨b,yZ,.inl (h3 u hu)⟩
theorem Ch.bs0 (I:FI A f S) {r l:List Str} (hv:S.rows v=some r) (h:Ch f S (S.bas v) l) (hc:c∈l):∃ rc,S.rows c=some rc/\S.bas c=c:=by
 obtain ⟨l1,l2,e⟩:=Ym hc;obtain ⟨rc,_,h1,h2,_⟩:=h.up I hv rfl e;exact ⟨rc,h1,h2⟩
theorem Ch.cov (G:Gr A f) (I:FI A f S) {r l:List Str} (hv:S.rows v=some r) (h:Ch f S (S.bas v) l) (hu:u∈r):Cov f S l u:=by
 have hl:l≠[]:=by obtain ⟨t,e⟩:=h.ne;rw [e];exact kD _ _
 obtain ⟨rc,t,h1,h2,h3,h4,h5⟩:=h.up I hv rfl (xj hl).symm;have hlast:l.getLast hl∈l:=List.getLast_mem hl;rw [h4] at hu;rcases yz.mp hu with hu | hu
 ·have hf:f (l.getLast hl)=none:=by
   cases h3 with
   | root e=>exact e
   | step _ _ g=>obtain ⟨_,e⟩:=g.ne;cases e
  have al:=I.alt _ _ h1;obtain ⟨r0,e0⟩:=al.tl
  have hr0:r0=[]:=by
   cases hr:r0.length with
   | zero=>exact List.eq_nil_of_length_eq_zero hr
   | succ n =>
    exfalso;have hlen:rc.length=n + 2:=by rw [e0];simp [hr]
    obtain ⟨a,ha⟩:∃ a,rc[n]?=some a:=⟨_,yb (by omega)⟩;have hb:rc[n + 1]?=some (l.getLast hl):=by rw [e0,yI (by omega),hr];simp
    have:=G.fs ((al.st n a _ ha hb).2.mpr (by have:=al.odd;omega));rw [hf] at this;cases this
  rw [e0,hr0] at hu;have e:u=l.getLast hl:=by simpa using hu
  exact ⟨_,hlast,.inl (by rw [e];exact h2)⟩
 ·rcases h5 u hu with z | ⟨d,hd,z⟩
  ·exact ⟨_,hlast,.inl z⟩
  ·exact ⟨d,List.dropLast_subset l hd,z⟩
theorem Cov.apart (G:Gr A f) (I:FI A f S) {l m:List Str} (hl:∀ d∈l,∃ r,S.rows d=some r/\S.bas d=d) (hm:∀ d∈m,∃ r,S.rows d=some r/\S.bas d=d) (hn:∀ d∈l,d∉m) (h1:Cov f S l u) (h2:Cov f S m u):False:=by
 have key:∀ {d e:Str},(∃ r,S.rows d=some r/\S.bas d=d)->(∃ r,S.rows e=some r/\S.bas e=e)->S.bas u=d->f e=some u->False:=fun ⟨r,hd,hdd⟩ ⟨s,he,hee⟩ h h'=>by
  have hu:=(I.dwn _ _ _ he hee h').1;have:=I.own hu;rw [h] at this;rw [this,hu] at hd;cases hd
 obtain ⟨d,hd,z⟩:=h1;obtain ⟨e,he,y⟩:=h2;have hde:d≠e:=fun w=>hn d hd (by rw [w];exact he);rcases z with z | z<;>rcases y with y | y
 ·exact hde (z.symm.trans y)
 ·exact key (hl d hd) (hm e he) z y
 ·exact key (hm e he) (hl d hd) y z
 ·have a:=G.fs z;rw [G.fs y] at a;exact hde (ym a).symm
theorem Turns.app {r s:List Str} (h:Turns A f r) (g:∀ (j:Nat) a b,s[j]?=some a->s[j + 1]?=some b->A a b/\(f a=some b↔(r.length + j) % 2=1)) (w:∀ a b,r[r.length - 1]?=some a->s[0]?=some b->0 < r.length->A a b/\(f a=some b↔(r.length - 1) % 2=1)):Turns A f (r++s):=fun j a b ha hb=>by
 by_cases h1:j + 1 < r.length
 ·rw [Yc (by omega)] at ha;rw [Yc h1] at hb;exact h j a b ha hb
 ·by_cases h2:j + 1=r.length
  ·rw [Yc (by omega),show j=r.length - 1 by omega] at ha;rw [yI (by omega),show j + 1 - r.length=0 by omega] at hb;rw [show j=r.length - 1 by omega];exact w a b ha hb (by omega)
  ·rw [yI (by omega)] at ha;rw [yI (by omega),show j + 1 - r.length=j - r.length + 1 by omega] at hb;have:=g _ a b ha hb
   rwa [show r.length + (j - r.length)=j by omega] at this
theorem Alt.back (G:Gr A f) {r s t:List Str} {w q:Str} (hw:Alt A f s w) (hv:Alt A f r v) (er:r=rz++q::c::t) (hz:rz.length % 2=1) (ha:A w v) (hn:f w≠some v) (ap:∀ u∈s,u∉q::c::t):Alt A f (s++(q::c::t).reverse) q:=by
 obtain ⟨s0,es⟩:=hw.tl;obtain ⟨r0,er0⟩:=hv.tl;have hsl:0 < s.length:=by rw [es];simp
 have hro:=hv.odd;have hrl:r.length=rz.length + (t.length + 2):=by rw [er];simp
 have at_:∀ {j:Nat} {a:Str},(q::c::t).reverse[j]?=some a->j < t.length + 2/\r[r.length - 1 - j]?=some a:=fun {j a} h=>by
  have hl:=(yc.mp h).1;rw [Yt] at hl;simp only [yA] at hl;rw [List.getElem?_reverse (by simp only [yA];omega)] at h;simp only [yA] at h;refine ⟨by omega,?_⟩;rw [hrl]
  conv=>lhs;rw [er]
  rw [yI (by omega),show rz.length + (t.length + 2) - 1 - j - rz.length=t.length + 1 + 1 - 1 - j by omega];exact h
 refine ⟨Yg.mpr ⟨hw.nd,?_,fun x hx y hy e=>ap x hx (by rw [e];exact XS.mp hy)⟩,?_,fun y hy=>?_,⟨s++(c::t).reverse,by simp⟩,hw.st.app (fun j a b h1 h2=>?_) fun a b h1 h2 _=>?_⟩
 ·exact (kj _).nodup_iff.mpr ((Yg.mp (er ▸ hv.nd)).2.1)
 ·rw [yt,Yt];simp only [yA];have:=hw.odd;omega
 ·rw [Yc hsl] at hy;exact hw.hd y hy
 ·obtain ⟨l1,e1⟩:=at_ h1;obtain ⟨l2,e2⟩:=at_ h2;have:=hv.st (r.length - 1 - (j + 1)) b a e2 (by rw [show r.length - 1 - (j + 1) + 1=r.length - 1 - j by omega];exact e1);refine ⟨G.as this.1,⟨fun z=>?_,fun z=>?_⟩⟩
  ·have:=this.2.mp (G.fs z);have:=hw.odd;omega
  ·exact G.fs (this.2.mpr (by have:=hw.odd;omega))
 ·have ea:a=w:=by
   rw [es,yt,yI (by simp)] at h1;simpa using h1.symm
  have eb:b=v:=by
   obtain ⟨_,e2⟩:=at_ h2;rw [kS,er0,yt,yI (by simp)] at e2;simpa using e2.symm
  subst ea;subst eb;exact ⟨ha,⟨fun z=>absurd z hn,fun z=>by have:=hw.odd;omega⟩⟩
end
section
variable {A:Str->Str->Prop} {f:Str->Option Str} {S S':FS}
theorem Ch.nd (I:FI A f S) {l:List Str} (h:Ch f S b l):∀ {v:Str} {r:List Str},S.rows v=some r->S.bas v=b->l.Nodup:=by
 induction h with
 | root e=>intro _ _ _ _;simp
 | @step b q z l e p g ih =>
  intro v r hv hb;have hbb:S.bas b=b:=by rw [<- hb];exact I.idm v r hv
  obtain ⟨rb,h1⟩:=I.evb hv;rw [hb] at h1;obtain ⟨_,z',rz,p',hz,_⟩:=I.dwn b rb q h1 hbb e;rw [p] at p';cases p';refine yo.mpr ⟨fun hm=>?_,ih hz rfl⟩;obtain ⟨x,y,e2⟩:=Ym hm;obtain ⟨_,_,_,_,k3,_⟩:=g.up I hz rfl e2;have:=k3.one (.step e p g);rw [e2] at this;have:=congrArg List.length this;simp at this;omega
theorem Ch.suf (I:FI A f S) {r l:List Str} (hv:S.rows v=some r) (h:Ch f S (S.bas v) l) {q:Str} (el:l=l1++c::l2) (hq:f c=some q):∃ rz t,r=rz++q::c::t/\rz.length % 2=1/\S.rows q=none/\∀ u∈q::c::t,Cov f S (l1++[c]) u:=by
 obtain ⟨rc,t,h1,h2,_,h4,h5⟩:=h.up I hv rfl el;obtain ⟨k1,z,rz,_,k3,k4⟩:=I.dwn c rc q h1 h2 hq;refine ⟨rz,t,by rw [h4,k4];simp,(I.alt z rz k3).odd,k1,fun u hu=>?_⟩;rcases yB.mp hu with rfl | hu
 ·exact ⟨c,by simp,.inr hq⟩
 ·rcases yB.mp hu with rfl | hu
  ·exact ⟨u,by simp,.inl h2⟩
  ·rcases h5 u hu with z | z
   ·exact ⟨c,by simp,.inl z⟩
   ·exact z.mono fun d hd=>yP _ hd
theorem Ch.meet (I:FI A f S) {w:Str} {r s l:List Str} (hv:S.rows v=some r) (hw:S.rows w=some s) (h:Ch f S (S.bas v) l) (h':Ch f S (S.bas w) l') {m2:List Str} (el:l=l1++m::l2) (el':l'=m1++m::m2) (hd:∀ d∈l1,d∉l'):m2=l2/\∀ d∈m1,d∉l:=by
 obtain ⟨_,_,_,_,k,_⟩:=h.up I hv rfl el;obtain ⟨_,_,_,_,k',_⟩:=h'.up I hw rfl el';have e2:m2=l2:=(xo (k.one k')).2;refine ⟨e2,fun d hm hl=>?_⟩;obtain ⟨a,b,ea⟩:=Ym hm;obtain ⟨x,y,ex⟩:=Ym hl;obtain ⟨_,_,_,_,g,_⟩:=h.up I hv rfl ex;obtain ⟨_,_,_,_,g',_⟩:=h'.up I hw rfl (l1:=a) (c:=d) (l2:=b++m::m2) (by rw [el',ea];simp);have e3:y=b++m::m2:=(xo (g'.one g)).2;have hnd:=h.nd I hv rfl;have hdl:d∈l':=by rw [el',ea];simp
 have hm1:d∉l1:=fun z=>hd d z hdl;have hdm:d∈m::l2:=by rw [el] at hl;exact (yz.mp hl).resolve_left hm1
 rcases yB.mp hdm with z | z
 ·rw [z] at ex;rw [ex,e3] at hnd;have:=(Yg.mp hnd).2.1;exact (yo.mp this).1 (by simp)
 ·have hmx:m∈x:=by
   obtain ⟨x2,y2,e4⟩:=Ym z;have e5:l=(l1++m::x2)++d::y2:=by rw [el,e4];simp
   obtain ⟨_,_,_,_,g2,_⟩:=h.up I hv rfl e5;have e6:y2=y:=(xo (g.one g2)).2;rw [e5,e6] at ex;rw [<- List.append_cancel_right ex];simp
  rw [ex,e3] at hnd;exact (Yg.mp hnd).2.2 m hmx m (by simp) rfl
noncomputable def NewRow (S:FS) (v w u:Str) (r:List Str):Prop:=∃ rv rw rz t,S.rows v=some rv/\S.rows w=some rw/\rv=rz++u::t/\r=rw++(u::t).reverse
noncomputable def InR (f:Str->Option Str) (m:Str) (cs:List Str) (u:Str):Prop:=u=m\/∃ c∈cs,u=c\/f c=some u
structure Mg (f:Str->Option Str) (S S':FS) (v w m:Str) (l1 m1:List Str):Prop where
 par:S'.par=S.par
 old:∀ u r,S.rows u=some r->S'.rows u=some r
 new:∀ u r,S'.rows u=some r->S.rows u=some r\/(∃ c∈l1,f c=some u/\NewRow S v w u r)\/(∃ c∈m1,f c=some u/\NewRow S w v u r)
 all:∀ c∈l1++m1,∀ q,f c=some q->∃ r,S'.rows q=some r
 inn:∀ u,InR f m (l1++m1) (S.bas u)->S'.bas u=m
 out:∀ u,¬ InR f m (l1++m1) (S.bas u)->S'.bas u=S.bas u
theorem cut_one {a b c d:List Str} {x:Str} (hn:(a++x::b).Nodup) (e:a++x::b=c++x::d):a=c/\b=d:=by
 induction a generalizing c with
 | nil =>
  cases c with
  | nil=>exact ⟨rfl,(xo e).2⟩
  | cons y c =>
   obtain ⟨e1,e2⟩:=xo e;exact absurd (show x∈b by rw [e2];simp) (yo.mp hn).1
 | cons y a ih =>
  cases c with
  | nil =>
   obtain ⟨e1,e2⟩:=xo e;exact absurd (show y∈a++x::b by rw [e1];simp) (yo.mp hn).1
  | cons z c =>
   obtain ⟨e1,e2⟩:=xo e;obtain ⟨h1,h2⟩:=ih (yo.mp hn).2 e2;exact ⟨by rw [e1,h1],h2⟩
theorem NewRow.ok (G:Gr A f) (I:FI A f S) {w:Str} {r l:List Str} (hv:S.rows v=some rv) (hw:S.rows w=some rw) (h:Ch f S (S.bas v) l) (h':Ch f S (S.bas w) l') (el:l=l1++l2) (hd:∀ d∈l1,d∉l') (ha:A w v) (hb:S.bas w≠S.bas v) (hc:c∈l1) (hu:f c=some u) (hr:NewRow S v w u r) :
  Alt A f r u/\S.rows u=none/\∃ t,r=rw++t/\∀ x∈t,Cov f S l1 x:=by
 obtain ⟨rv',rw',rz,t,k1,k2,k3,k4⟩:=hr;rw [hv] at k1;cases k1;rw [hw] at k2;cases k2;obtain ⟨a,b,ea⟩:=Ym hc;obtain ⟨rz',t',e1,e2,e3,e4⟩:=h.suf I hv (l1:=a) (c:=c) (l2:=b++l2) (by rw [el,ea];simp) hu;have hnd:=(I.alt v rv hv).nd;obtain ⟨g1,g2⟩:=cut_one (by rw [<- k3];exact hnd) (k3.symm.trans e1);subst g1;subst g2;have sub:∀ d∈a++[c],d∈l1:=fun d z=>by rw [ea];rcases yz.mp z with z | z;exact yP _ z;rw [yy.mp z];simp
 have inl:∀ d∈l1,d∈l:=fun d z=>by rw [el];exact yP _ z
 refine ⟨?_,e3,_,k4,fun x hx=>(e4 x (XS.mp hx)).mono sub⟩;rw [k4];refine Alt.back G (I.alt w rw hw) (I.alt v rv hv) e1 e2 ha (fun z=>hb (I.pair hw hv z)) fun x hx hx2=>?_;exact Cov.apart G I (fun d z=>h.bs0 I hv (inl d (sub d z))) (fun d z=>h'.bs0 I hw z) (fun d z=>hd d (sub d z)) (e4 x hx2) (h'.cov G I hw hx)
theorem FI.merge (G:Gr A f) (I:FI A f S) {w:Str} (hv:S.rows v=some rv) (hw:S.rows w=some rw) (h:Ch f S (S.bas v) (l1++m::l2)) (h':Ch f S (S.bas w) (m1++m::l2)) (hd:∀ d∈l1,d∉m1++m::l2) (hd':∀ d∈m1,d∉l1++m::l2) (ha:A v w) (hb:S.bas v≠S.bas w) (M:Mg f S S' v w m l1 m1):FI A f S':=by
 have hm:∃ r,S.rows m=some r/\S.bas m=m:=h.bs0 I hv (by simp);obtain ⟨rm,hrm,hmm⟩:=hm
 have hcs:∀ c∈l1++m1,(∃ r,S.rows c=some r/\S.bas c=c)/\c≠m/\∃ q,f c=some q/\S.rows q=none:=fun c hc=>by
  rcases yz.mp hc with z | z
  ·refine ⟨h.bs0 I hv (yP _ z),fun e=>hd c z (by rw [e];simp),?_⟩;obtain ⟨a,b,ea⟩:=Ym z;obtain ⟨rc,_,g1,g2,g3,_⟩:=h.up I hv rfl (l1:=a) (c:=c) (l2:=b++m::l2) (by rw [ea];simp);generalize hx:b++m::l2=x at g3
   cases g3 with
   | root _=>exact absurd (congrArg List.length hx) (by simp)
   | step e _ _=>exact ⟨_,e,(I.dwn _ _ _ g1 g2 e).1⟩
  ·refine ⟨h'.bs0 I hw (yP _ z),fun e=>hd' c z (by rw [e];simp),?_⟩;obtain ⟨a,b,ea⟩:=Ym z;obtain ⟨rc,_,g1,g2,g3,_⟩:=h'.up I hw rfl (l1:=a) (c:=c) (l2:=b++m::l2) (by rw [ea];simp);generalize hx:b++m::l2=x at g3
   cases g3 with
   | root _=>exact absurd (congrArg List.length hx) (by simp)
   | step e _ _=>exact ⟨_,e,(I.dwn _ _ _ g1 g2 e).1⟩
 have cov:∀ u,Cov f S (l1++m1) u->S'.bas u=m:=fun u ⟨d,hd,z⟩=>by
  refine M.inn u ?_;rcases z with z | z
  ·exact .inr ⟨d,hd,.inl z⟩
  ·have hn:=(hcs d hd).2.2;obtain ⟨q,e,hq⟩:=hn;rw [z] at e;cases e;rw [I.own hq];exact .inr ⟨d,hd,.inr z⟩
 have covl:∀ u,Cov f S l1 u->S'.bas u=m:=fun u z=>cov u (z.mono fun d y=>yP _ y);have covm:∀ u,Cov f S m1 u->S'.bas u=m:=fun u z=>cov u (z.mono fun d y=>yO _ y);have bm:∀ u,S.bas u=m->S'.bas u=m:=fun u z=>M.inn u (.inl z);have m0:S'.bas m=m:=bm m hmm;have rm':=M.old m rm hrm
 have pre:∀ {x:Str} {rx a b:List Str},S.rows x=some rx->Ch f S (S.bas x) (a++m::b)->(∀ d∈a,d∈l1++m1)->∃ t,rx=rm++t/\∀ u∈t,S'.bas u=m:=fun {x rx a b} hx hc hs=>by
  obtain ⟨rc,t,g1,_,_,g4,g5⟩:=hc.up I hx rfl rfl;rw [hrm] at g1;cases g1;exact ⟨t,g4,fun u hu=>(g5 u hu).elim (bm u) fun z=>cov u (z.mono hs)⟩
 have nw:∀ u r,(∃ c∈l1,f c=some u/\NewRow S v w u r)\/(∃ c∈m1,f c=some u/\NewRow S w v u r)->Alt A f r u/\S.rows u=none/\S'.bas u=m/\∃ t,r=rm++t/\∀ x∈t,S'.bas x=m:=fun u r z=>by
  rcases z with ⟨c,hc,hu,hr⟩ | ⟨c,hc,hu,hr⟩
  ·obtain ⟨g1,g2,t,g3,g4⟩:=NewRow.ok G I hv hw h h' rfl hd (G.as ha) (Yn hb) hc hu hr;obtain ⟨t0,p1,p2⟩:=pre hw h' fun d y=>yO _ y;exact ⟨g1,g2,covl u ⟨c,hc,.inr hu⟩,t0++t,by rw [g3,p1];simp,fun x hx=>(yz.mp hx).elim (p2 x) fun y=>covl x (g4 x y)⟩
  ·obtain ⟨g1,g2,t,g3,g4⟩:=NewRow.ok G I hw hv h' h rfl hd' ha hb hc hu hr;obtain ⟨t0,p1,p2⟩:=pre hv h fun d y=>yP _ y;exact ⟨g1,g2,covm u ⟨c,hc,.inr hu⟩,t0++t,by rw [g3,p1];simp,fun x hx=>(yz.mp hx).elim (p2 x) fun y=>covm x (g4 x y)⟩
 have inR:∀ u r,S.rows u=some r->InR f m (l1++m1) (S.bas u)->S.bas u=m\/S.bas u∈l1++m1:=fun u r hu z=>by
  rcases z with z | ⟨c,hc,z | z⟩
  ·exact .inl z
  ·exact .inr (by rw [z];exact hc)
  ·obtain ⟨q,e,hq⟩:=(hcs c hc).2.2;rw [z] at e;cases e;obtain ⟨rb,e2⟩:=I.evb hu;rw [hq] at e2;cases e2
 refine ⟨fun u r hu=>?_,fun u r hu=>?_,fun u r hu=>?_,fun b r q hb' hbb hq=>?_,fun u hu=>?_,fun x z hx=>?_⟩
 ·rcases M.new u r hu with z | z
  ·exact I.alt u r z
  ·exact (nw u r z).1
 ·rcases M.new u r hu with z | z
  ·by_cases hin:InR f m (l1++m1) (S.bas u)
   ·rw [M.inn u hin];refine ⟨rm,?_⟩
    have:∃ t,r=rm++t/\∀ x∈t,S'.bas x=m:=by
     rcases inR u r z hin with y | y
     ·obtain ⟨rb,t,e1,e2,e3⟩:=I.bse u r z;rw [y,hrm] at e1;cases e1;exact ⟨t,e2,fun x hx=>bm x ((e3 x hx).trans y)⟩
     ·rcases yz.mp y with y | y
      ·obtain ⟨a,b,ea⟩:=Ym y;obtain ⟨_,_,_,_,g,_⟩:=h.up I hv rfl (l1:=a) (c:=S.bas u) (l2:=b++m::l2) (by rw [ea];simp);exact pre z (a:=S.bas u::b) (by simpa using g) fun d hd=>by rw [ea];rcases yB.mp hd with rfl | hd<;>simp [*]
      ·obtain ⟨a,b,ea⟩:=Ym y;obtain ⟨_,_,_,_,g,_⟩:=h'.up I hw rfl (l1:=a) (c:=S.bas u) (l2:=b++m::l2) (by rw [ea];simp);exact pre z (a:=S.bas u::b) (by simpa using g) fun d hd=>by rw [ea];rcases yB.mp hd with rfl | hd<;>simp [*]
    obtain ⟨t,e1,e2⟩:=this;exact ⟨t,rm',e1,e2⟩
   ·rw [M.out u hin];obtain ⟨rb,t,e1,e2,e3⟩:=I.bse u r z;exact ⟨rb,t,M.old _ _ e1,e2,fun x hx=>by rw [M.out x (by rw [e3 x hx];exact hin)];exact e3 x hx⟩
  ·obtain ⟨_,_,e,t,e1,e2⟩:=nw u r z;rw [e];exact ⟨rm,t,rm',e1,e2⟩
 ·by_cases hin:InR f m (l1++m1) (S.bas u)
  ·rw [M.inn u hin];exact m0
  ·rw [M.out u hin];rcases M.new u r hu with z | z
   ·have e:=I.idm u r z;rw [M.out _ (by rw [e];exact hin)];exact e
   ·obtain ⟨_,g2,_⟩:=nw u r z;have e:=I.own g2;rw [e,M.out u (by rw [e] at hin ⊢;exact hin)];exact e
 ·have hb2:S.bas b=b/\(b=m\/¬ InR f m (l1++m1) (S.bas b)):=by
   by_cases hin:InR f m (l1++m1) (S.bas b)
   ·have:=M.inn b hin;rw [hbb] at this;rw [this];exact ⟨hmm,.inl rfl⟩
   ·have:=M.out b hin;rw [hbb] at this;exact ⟨this.symm,.inr hin⟩
  obtain ⟨hb3,hb4⟩:=hb2
  have hr:S.rows b=some r:=by
   rcases M.new b r hb' with z | z
   ·exact z
   ·exfalso;obtain ⟨_,g2,g3,_⟩:=nw b r z;rw [hbb] at g3;rw [g3,hrm] at g2;cases g2
  obtain ⟨k1,z,rz,k2,k3,k4⟩:=I.dwn b r q hr hb3 hq;refine ⟨?_,z,rz,by rw [M.par];exact k2,M.old _ _ k3,k4⟩
  cases e:S'.rows q with
  | none=>rfl
  | some s =>
   exfalso
   have noc:∀ c∈l1++m1,f c=some q->False:=fun c hc hcq=>by
    have:=G.fs hcq;rw [G.fs hq] at this;have e2:=ym this;subst e2;rcases hb4 with y | y
    ·exact (hcs b hc).2.1 y
    ·exact y (.inr ⟨b,hc,.inl hb3⟩)
   rcases M.new q s e with y | ⟨c,hc,y,_⟩ | ⟨c,hc,y,_⟩
   ·rw [k1] at y;cases y
   ·exact noc c (yP _ hc) y
   ·exact noc c (yO _ hc) y
 ·by_cases hin:InR f m (l1++m1) (S.bas u)
  ·rw [M.inn u hin] at hu ⊢;by_cases hub:S.bas u=u
   ·rw [hub] at hin;rcases hin with z | ⟨c,hc,z | z⟩
    ·exact absurd z.symm hu
    ·subst z;obtain ⟨⟨r,hr,_⟩,_,q,hq,_⟩:=hcs u hc;exact ⟨⟨r,M.old _ _ hr⟩,q,hq,cov q ⟨u,hc,.inr hq⟩⟩
    ·exact ⟨M.all c hc u z,c,G.fs z,cov c ⟨c,hc,.inl (hcs c hc).1.choose_spec.2⟩⟩
   ·obtain ⟨⟨r,hr⟩,y,hy,e⟩:=I.mat u hub;exact ⟨⟨r,M.old _ _ hr⟩,y,hy,M.inn y (by rw [e];exact hin)⟩
  ·rw [M.out u hin] at hu ⊢;obtain ⟨⟨r,hr⟩,y,hy,e⟩:=I.mat u hu;exact ⟨⟨r,M.old _ _ hr⟩,y,hy,by rw [M.out y (by rw [e];exact hin)];exact e⟩
 ·rw [M.par] at hx;obtain ⟨k1,⟨r,k2⟩,y,s,k3,k4⟩:=I.odd x z hx;exact ⟨k1,⟨r,M.old _ _ k2⟩,y,s,k3,M.old _ _ k4⟩
end
structure Aug (A:Str->Str->Prop) (f:Str->Option Str) (r:List Str):Prop where
 nd:r.Nodup
 two:2<=r.length
 ev:r.length % 2=0
 st:Turns A f r
 hd:∀ s,r[0]?=some s->f s=none
 tl:∀ s,r[r.length - 1]?=some s->f s=none
section
variable {A:Str->Str->Prop} {f:Str->Option Str} {S S':FS}
theorem FI.aug (G:Gr A f) (I:FI A f S) {w:Str} {l:List Str} (hv:S.rows v=some rv) (hw:S.rows w=some rw) (h:Ch f S (S.bas v) l) (h':Ch f S (S.bas w) l') (hl:l.getLast?≠l'.getLast?) (ha:A v w):Aug A f (rv++rw.reverse):=by
 have dis:∀ d∈l,d∉l':=fun d hd hd'=>by
  obtain ⟨a,b,e⟩:=Ym hd;obtain ⟨x,y,e'⟩:=Ym hd';obtain ⟨_,_,_,_,k,_⟩:=h.up I hv rfl e;obtain ⟨_,_,_,_,k',_⟩:=h'.up I hw rfl e';have:=k.one k';exact hl (by rw [e,e',this,Xi,Xi];rfl)
 have av:=I.alt v rv hv;have aw:=I.alt w rw hw;obtain ⟨v0,ev⟩:=av.tl;obtain ⟨w0,ew⟩:=aw.tl;have lv:0 < rv.length:=by rw [ev];simp
 have lw:0 < rw.length:=by rw [ew];simp
 have ov:=av.odd;have ow:=aw.odd
 have hn:f v≠some w:=fun z=>by
  have e:=I.pair hv hw z;have:=h.one (e ▸ h');rw [this] at hl;exact hl rfl
 have at_:∀ {j:Nat} {a:Str},rw.reverse[j]?=some a->j < rw.length/\rw[rw.length - 1 - j]?=some a:=fun {j a} e=>by
  have hl:=(yc.mp e).1;rw [Yt] at hl;rw [List.getElem?_reverse hl] at e;exact ⟨hl,e⟩
 refine ⟨Yg.mpr ⟨av.nd,(kj _).nodup_iff.mpr aw.nd,fun x hx y hy e=>?_⟩,by rw [yt,Yt];omega,by rw [yt,Yt];omega,av.st.app (fun j a b h1 h2=>?_) fun a b h1 h2 _=>?_,fun s hs=>?_,fun s hs=>?_⟩
 ·rw [<- e] at hy;exact Cov.apart G I (fun d z=>h.bs0 I hv z) (fun d z=>h'.bs0 I hw z) dis (h.cov G I hv hx) (h'.cov G I hw (XS.mp hy))
 ·obtain ⟨l1,e1⟩:=at_ h1;obtain ⟨l2,e2⟩:=at_ h2;have:=aw.st (rw.length - 1 - (j + 1)) b a e2 (by rw [show rw.length - 1 - (j + 1) + 1=rw.length - 1 - j by omega];exact e1);refine ⟨G.as this.1,⟨fun z=>?_,fun z=>?_⟩⟩
  ·have:=this.2.mp (G.fs z);omega
  ·exact G.fs (this.2.mpr (by omega))
 ·have ea:a=v:=by
   rw [ev,yt,yI (by simp)] at h1;simpa using h1.symm
  have eb:b=w:=by
   obtain ⟨_,e2⟩:=at_ h2;rw [kS,ew,yt,yI (by simp)] at e2;simpa using e2.symm
  subst ea;subst eb;exact ⟨ha,⟨fun z=>absurd z hn,fun z=>by omega⟩⟩
 ·rw [Yc lv] at hs;exact av.hd s hs
 ·rw [yt,Yt,yI (by omega),show rv.length + rw.length - 1 - rv.length=rw.length - 1 by omega] at hs;obtain ⟨_,e⟩:=at_ hs;rw [kI] at e;exact aw.hd s e
structure Gw (S S':FS) (p u y:Str) (r:List Str):Prop where
 ry:S'.rows y=some (r++[u,y])
 ro:∀ s,s≠y->S'.rows s=S.rows s
 pu:S'.par u=some p
 po:∀ s,s≠u->S'.par s=S.par s
 ba:S'.bas=S.bas
theorem FI.fresh (G:Gr A f) (I:FI A f S) (hu:S.rows u=none) (hq:S.par u=none) (hy:f u=some y):S.rows y=none:=by
 cases e:S.rows y with
 | none=>rfl
 | some s =>
  exfalso;by_cases z:S.bas y=y
  ·obtain ⟨_,_,_,k,_⟩:=I.dwn y s u e z (G.fs hy);rw [hq] at k;cases k
  ·obtain ⟨_,x,hx,k⟩:=I.mat y z;rw [G.fs hy] at hx;cases hx;rw [I.own hu] at k;obtain ⟨rb,k2⟩:=I.evb e;rw [<- k,hu] at k2;cases k2
theorem FI.grow (G:Gr A f) (I:FI A f S) {p:Str} {r:List Str} (hp:S.rows p=some r) (ha:A p u) (hu:S.rows u=none) (hq:S.par u=none) (hy:f u=some y) (W:Gw S S' p u y r):FI A f S':=by
 have hyn:=I.fresh G hu hq hy;have uy:u≠y:=G.ir (G.fa hy);have py:p≠y:=fun z=>by rw [z,hyn] at hp;cases hp
 have old:∀ s t,S.rows s=some t->S'.rows s=some t:=fun s t e=>by rw [W.ro s (fun z=>by rw [z,hyn] at e;cases e)];exact e
 have new:∀ s t,S'.rows s=some t->(s=y/\t=r++[u,y])\/(s≠y/\S.rows s=some t):=fun s t e=>by
  by_cases z:s=y
  ·subst z;rw [W.ry] at e;exact .inl ⟨rfl,(ym e).symm⟩
  ·rw [W.ro s z] at e;exact .inr ⟨z,e⟩
 obtain ⟨l,hl⟩:=I.chainOf hp
 have notin:∀ x∈r,x≠u/\x≠y:=fun x hx=>by
  obtain ⟨d,hd,z⟩:=hl.cov G I hp hx;obtain ⟨rd,k1,k2⟩:=hl.bs0 I hp hd;refine ⟨fun e=>?_,fun e=>?_⟩
  ·rw [e] at z;rcases z with z | z
   ·rw [I.own hu] at z;rw [z,k1] at hu;cases hu
   ·obtain ⟨_,_,_,k,_⟩:=I.dwn d rd u k1 k2 z;rw [hq] at k;cases k
  ·rw [e] at z;rcases z with z | z
   ·rw [I.own hyn] at z;rw [z,k1] at hyn;cases hyn
   ·have:=G.fs z;rw [G.fs hy] at this;rw [ym this,k1] at hu;cases hu
 have ap:=I.alt p r hp;obtain ⟨r0,er⟩:=ap.tl;have hrl:0 < r.length:=by rw [er];simp
 refine ⟨fun v t e=>?_,fun v t e=>?_,fun v t e=>?_,fun b t q e hb hf=>?_,fun v e=>?_,fun x z e=>?_⟩
 ·rcases new v t e with ⟨rfl,rfl⟩ | ⟨_,e⟩
  ·refine ⟨Yg.mpr ⟨ap.nd,by simp [uy],fun x hx z hz exz=>?_⟩,by rw [yt];have:=ap.odd;simp only [yA,YM];omega,fun s hs=>?_,⟨r++[u],by simp⟩,ap.st.app (fun j a b h1 h2=>?_) fun a b h1 h2 _=>?_⟩
   ·obtain ⟨n1,n2⟩:=notin x hx;simp only [yB,yY,YB] at hz;rcases hz with rfl | rfl
    ·exact n1 exz
    ·exact n2 exz
   ·rw [Yc hrl] at hs;exact ap.hd s hs
   ·have hj:j=0:=by have:=(yc.mp h2).1;simp at this;omega
    subst hj;cases h1;cases h2;exact ⟨G.fa hy,⟨fun _=>by have:=ap.odd;omega,fun _=>hy⟩⟩
   ·cases h2
    have ea:a=p:=by
     rw [er,yt,yI (by simp)] at h1;simpa using h1.symm
    subst ea;refine ⟨ha,⟨fun z=>?_,fun z=>by have:=ap.odd;omega⟩⟩;have:=G.fs z;rw [hy] at this;exact absurd (ym this).symm py
  ·exact I.alt v t e
 ·rw [W.ba];rcases new v t e with ⟨rfl,rfl⟩ | ⟨_,e⟩
  ·rw [I.own hyn];exact ⟨_,[],W.ry,by simp,(fun x h=>by cases h)⟩
  ·obtain ⟨rb,s,k1,k2,k3⟩:=I.bse v t e;exact ⟨rb,s,old _ _ k1,k2,k3⟩
 ·rw [W.ba];rcases new v t e with ⟨rfl,rfl⟩ | ⟨_,e⟩
  ·rw [I.own hyn,I.own hyn]
  ·exact I.idm v t e
 ·rw [W.ba] at hb;rcases new b t e with ⟨rfl,rfl⟩ | ⟨_,e⟩
  ·rw [G.fs hy] at hf;cases hf;exact ⟨by rw [W.ro u uy];exact hu,p,r,W.pu,old _ _ hp,rfl⟩
  ·obtain ⟨k1,z,rz,k2,k3,k4⟩:=I.dwn b t q e hb hf;refine ⟨?_,z,rz,?_,old _ _ k3,k4⟩
   ·rw [W.ro q fun z=>?_]
    ·exact k1
    ·rw [z] at hf;have:=G.fs hf;rw [G.fs hy] at this;rw [<- ym this,hu] at e;cases e
   ·rw [W.po q fun z=>?_]
    ·exact k2
    ·rw [z,hq] at k2;cases k2
 ·rw [W.ba] at e ⊢;obtain ⟨⟨t,k1⟩,k2⟩:=I.mat v e;exact ⟨⟨t,old _ _ k1⟩,k2⟩
 ·by_cases hx:x=u
  ·subst hx;rw [W.pu] at e;cases e;exact ⟨ha,⟨r,old _ _ hp⟩,y,_,hy,W.ry⟩
  ·rw [W.po x hx] at e;obtain ⟨k1,⟨t,k2⟩,y',s,k3,k4⟩:=I.odd x z e;exact ⟨k1,⟨t,old _ _ k2⟩,y',s,k3,old _ _ k4⟩
theorem FI.start (h1:∀ v r,S.rows v=some r->f v=none/\r=[v]) (h2:∀ x,S.par x=none) (h3:∀ v,S.bas v=v):FI A f S:=by
 refine ⟨fun v r e=>?_,fun v r e=>?_,fun v r e=>by rw [h3,h3],fun b r q e _ hf=>?_,fun v e=>absurd (h3 v) e,fun x z e=>by rw [h2] at e;cases e⟩
 ·obtain ⟨k,rfl⟩:=h1 v r e;refine ⟨by simp,rfl,fun s hs=>by cases hs;exact k,⟨[],rfl⟩,fun j a b h1 h2=>?_⟩;simp at h2
 ·exact ⟨r,[],by rw [h3];exact e,by simp,(fun x h=>by cases h)⟩
 ·rw [(h1 b r e).1] at hf;cases hf
end
structure CI (A:Str->Str->Prop) (S:FS) (Pd:Str->Prop):Prop where
 cl:∀ v u,Pd v->A v u->S.bas u=S.bas v\/(S.par u≠none/\¬ Pd u)
 pe:∀ v,Pd v->S.rows v≠none
theorem CI.mono (h:CI A S Pd) (hb:∀ u v,S.bas u=S.bas v->S'.bas u=S'.bas v) (hp:∀ u,S.par u≠none->S'.par u≠none) (hr:∀ u,S.rows u≠none->S'.rows u≠none):CI A S' Pd:=
 ⟨fun v u k a=>(h.cl v u k a).imp (hb u v) fun z=>⟨hp u z.1,z.2⟩,fun v k=>hr v (h.pe v k)⟩
theorem qdC:∀ {l m:List Str},l.Nodup->(∀ x∈l,x∈m)->l.length<=m.length
 | [],_,_,_=>YK _
 | x::r,m,hn,hs=>by
  obtain ⟨h1,h2⟩:=yo.mp hn;have hx:=hs x yZ;have:=qdC (l:=r) (m:=m.erase x) h2 fun y hy=>(XV (fun e=>h1 (by rw [<- e];exact hy))).mpr (hs y (yJ _ hy));rw [Y2 hx] at this;have:0 < m.length:=xm hx;simp only [yA];omega
theorem qeE:∀ (n:Nat) {X:List Str},X.length<=n->X.Nodup->(∀ x∈X,∃ y∈X,g x=some y/\y≠x/\g y=some x)->X.length % 2=0
 | _,[],_,_,_=>rfl
 | 0,x::r,h,_,_=>by simp at h
 | n + 1,x::r,h,hn,hp=>by
  obtain ⟨h1,h2⟩:=yo.mp hn;obtain ⟨y,hy,gx,hyx,gy⟩:=hp x yZ;have hyr:y∈r:=(yB.mp hy).resolve_left hyx;have hl:=Y2 hyr;have h0:0 < r.length:=xm hyr
  have:=qeE n (X:=r.erase y) (by simp at h;omega) (h2.erase y) fun z hz=>by
   have hz2:=(h2.mem_erase_iff.mp hz);obtain ⟨u,hu,gz,huz,gu⟩:=hp z (yJ _ hz2.2);have ux:u≠x:=fun e=>by rw [e,gx] at gu;exact hz2.1 (ym gu).symm
   have uy:u≠y:=fun e=>by rw [e,gy] at gu;exact h1 (by rw [ym gu];exact hz2.2)
   exact ⟨u,h2.mem_erase_iff.mpr ⟨uy,(yB.mp hu).resolve_left ux⟩,gz,huz,gu⟩
  simp only [yA];omega
structure Fn (A:Str->Str->Prop) (f:Str->Option Str) (S:FS) (ss:List Str):Prop where
 fi:FI A f S
 gr:Gr A f
 inn:∀ a b,A a b->a∈ss
 nd:ss.Nodup
 cl:∀ v u,S.rows v≠none->A v u->S.bas u=S.bas v\/(S.par u≠none/\S.rows u=none)
 sng:∀ z∈ss,f z=none->S.rows z≠none
 es:∀ v,S.rows v≠none->v∈ss
noncomputable def qeF (S:FS) (ss:List Str) (b:Str):List Str:=ss.filter fun u=>(S.rows u).isSome&&decide (S.bas u=b)
noncomputable def qbJ (S:FS) (ss:List Str):List Str:=ss.filter fun u=>(S.rows u).isSome&&decide (S.bas u=u)
noncomputable def qex (S:FS) (ss:List Str):List Str:=ss.filter fun u=>(S.par u).isSome&&!(S.rows u).isSome
noncomputable def snL (g:Str->Option Str) (ss:List Str):List Str:=ss.filter fun u=>!(g u).isSome
section
variable {A:Str->Str->Prop} {f g:Str->Option Str} {S:FS} {ss:List Str}
theorem isS {o:Option α}:o.isSome=true↔o≠none:=by cases o<;>simp
theorem mem_cls:u∈qeF S ss b↔u∈ss/\S.rows u≠none/\S.bas u=b:=by
 unfold qeF;rw [yp,Ye,isS,yR]
theorem mem_bas:u∈qbJ S ss↔u∈ss/\S.rows u≠none/\S.bas u=u:=by
 unfold qbJ;rw [yp,Ye,isS,yR]
theorem mem_bar:u∈qex S ss↔u∈ss/\S.par u≠none/\S.rows u=none:=by
 unfold qex;rw [yp,Ye,isS];cases S.rows u<;>simp
theorem mem_sn:u∈snL g ss↔u∈ss/\g u=none:=by
 unfold snL;rw [yp];cases g u<;>simp
theorem some_of {o:Option α} (h:o≠none):∃ r,o=some r:=by cases o with | none=>exact absurd rfl h | some r=>exact ⟨r,rfl⟩
theorem FI.evE (I:FI A f S) (hv:S.rows v≠none) (e:S.bas u=S.bas v):S.rows u≠none:=fun hu=>by
 obtain ⟨r,hr⟩:=some_of hv;obtain ⟨rb,hb⟩:=I.evb hr;rw [I.own hu] at e;rw [<- e,hu] at hb;cases hb
theorem Fn.cls_odd (F:Fn A f S ss) (hb:b∈qbJ S ss):(qeF S ss b).length % 2=1:=by
 obtain ⟨b1,b2,b3⟩:=mem_bas.mp hb;have hbc:b∈qeF S ss b:=mem_cls.mpr ⟨b1,b2,b3⟩;have hnd:(qeF S ss b).Nodup:=F.nd.filter _
 have:=qeE (g:=f) _ (X:=(qeF S ss b).erase b) (yh _) (hnd.erase b) fun z hz=>by
  obtain ⟨zb,hz⟩:=hnd.mem_erase_iff.mp hz;obtain ⟨z1,z2,z3⟩:=mem_cls.mp hz;obtain ⟨_,u,hu,hub⟩:=F.fi.mat z (fun e=>zb (e.symm.trans z3));have hue:=F.fi.evE z2 hub;refine ⟨u,hnd.mem_erase_iff.mpr ⟨fun e=>?_,mem_cls.mpr ⟨F.es u hue,hue,hub.trans z3⟩⟩,hu,Yn (F.gr.ir (F.gr.fa hu)),F.gr.fs hu⟩;obtain ⟨r,hr⟩:=some_of b2;rw [e] at hu;exact z2 (F.fi.dwn b r z hr b3 (F.gr.fs hu)).1
 rw [Y2 hbc] at this;have:=xm hbc;omega
theorem Fn.count (F:Fn A f S ss):(qbJ S ss).length=(snL f ss).length + (qex S ss).length:=by
 have hb:(qbJ S ss).Nodup:=F.nd.filter _
 have e:(qbJ S ss).length=((qbJ S ss).filter fun b=>!(f b).isSome).length + ((qbJ S ss).filter fun b=>(f b).isSome).length:=by
  generalize qbJ S ss=l
  induction l with
  | nil=>rfl
  | cons x r ih =>
   rw [yS,yS,yA,ih];cases (f x).isSome
   ·rw [yF (show (!false)=true from rfl),yC Yl,yA];omega
   ·rw [yC (show ¬ (!true)=true by decide),yF (show true=true from rfl),yA];omega
 rw [e];have e1:((qbJ S ss).filter fun b=>!(f b).isSome).length=(snL f ss).length:=X3
  (qdC (hb.filter _) fun x hx=>by
   obtain ⟨h1,h2⟩:=yp.mp hx;refine mem_sn.mpr ⟨(mem_bas.mp h1).1,?_⟩
   cases e:f x with
   | none=>rfl
   | some y=>rw [e] at h2;cases h2)
  (qdC (F.nd.filter _) fun x hx=>by
   obtain ⟨h1,h2⟩:=mem_sn.mp hx;refine yp.mpr ⟨mem_bas.mpr ⟨h1,F.sng x h1 h2,Yu fun z=>?_⟩,by rw [h2];rfl⟩;obtain ⟨_,u,hu,_⟩:=F.fi.mat x z;rw [h2] at hu;cases hu)
 have e2:((qbJ S ss).filter fun b=>(f b).isSome).length=(qex S ss).length:=by
  have inj:(((qbJ S ss).filter fun b=>(f b).isSome).map fun b=>(f b).getD "").Nodup:=by
   refine YF.mpr (Y3 (fun {a b} ha hb' hab e=>?_) (hb.filter _));obtain ⟨x,hx⟩:=Y1.mp (yp.mp ha).2;obtain ⟨y,hy⟩:=Y1.mp (yp.mp hb').2;rw [hx,hy] at e;have exy:x=y:=e;have k:=F.gr.fs hx;rw [exy,F.gr.fs hy] at k;exact hab (ym k).symm
  refine X3 ?_ ?_
  ·have:=qdC inj (m:=qex S ss) fun q hq=>?_
   rwa [ya] at this
   obtain ⟨b,hb',rfl⟩:=yQ.mp hq;obtain ⟨h1,h2⟩:=yp.mp hb';obtain ⟨x,hx⟩:=Y1.mp h2;obtain ⟨b1,b2,b3⟩:=mem_bas.mp h1;obtain ⟨r,hr⟩:=some_of b2;obtain ⟨k1,z,rz,k2,_⟩:=F.fi.dwn b r x hr b3 hx;rw [hx];have k3:S.par x≠none:=by rw [k2];exact fun e=>by cases e
   show x∈qex S ss;exact mem_bar.mpr ⟨F.inn _ _ (F.gr.as (F.gr.fa hx)),k3,k1⟩
  ·have:(qex S ss).length<=(((qbJ S ss).filter fun b=>(f b).isSome).map fun b=>(f b).getD "").length:=qdC (F.nd.filter _) fun q hq=>?_
   rwa [ya] at this
   obtain ⟨q1,q2,q3⟩:=mem_bar.mp hq;obtain ⟨z,hz⟩:=some_of q2;obtain ⟨_,_,y,r,k1,k2⟩:=F.fi.odd q z hz;have hy2:S.rows y≠none:=by rw [k2];exact fun e=>by cases e
   refine yQ.mpr ⟨y,yp.mpr ⟨mem_bas.mpr ⟨F.es y hy2,hy2,Yu fun e=>?_⟩,by rw [F.gr.fs k1];rfl⟩,by rw [F.gr.fs k1];rfl⟩;obtain ⟨_,u,hu,hub⟩:=F.fi.mat y e;rw [F.gr.fs k1] at hu;cases hu;exact F.fi.evE hy2 hub q3
 rw [e1,e2]
theorem Fn.most (F:Fn A f S ss) (hg:Gr A g):(snL f ss).length<=(ss.filter fun u=>!(g u).isSome&&(S.rows u).isSome).length:=by
 have key:∀ b∈qbJ S ss,∃ v∈qeF S ss b,g v=none\/∃ w,g v=some w/\w∈qex S ss:=fun b hb=>Yu fun hno=>by
  have hodd:=F.cls_odd hb
  have:=qeE (g:=g) _ (X:=qeF S ss b) (yh _) (F.nd.filter _) fun v hv=>by
   obtain ⟨v1,v2,v3⟩:=mem_cls.mp hv
   cases e:g v with
   | none=>exact absurd ⟨v,hv,.inl e⟩ hno
   | some w =>
    have hw:=hg.as (hg.fa e);rcases F.cl v w v2 (hg.fa e) with z | ⟨z1,z2⟩
    ·have hwe:=F.fi.evE v2 z;exact ⟨w,mem_cls.mpr ⟨F.es w hwe,hwe,z.trans v3⟩,rfl,Yn (hg.ir (hg.fa e)),hg.fs e⟩
    ·exact absurd ⟨v,hv,.inr ⟨w,e,mem_bar.mpr ⟨F.inn _ _ hw,z1,z2⟩⟩⟩ hno
  omega
 obtain ⟨φ,hφ⟩:∃ φ:Str->Str,∀ b∈qbJ S ss,φ b∈qeF S ss b/\(g (φ b)=none\/∃ w,g (φ b)=some w/\w∈qex S ss):=
  ⟨fun b=>@dite _ (b∈qbJ S ss) (Classical.propDecidable _) (fun h=>(key b h).choose) fun _=>b,fun b hb=>by
   dsimp only;rw [dif_pos hb];exact ⟨(key b hb).choose_spec.1,(key b hb).choose_spec.2⟩⟩
 have inj:∀ a∈qbJ S ss,∀ b∈qbJ S ss,φ a=φ b->a=b:=fun a ha b hb e=>by
  have h1:=(mem_cls.mp (hφ a ha).1).2.2;have h2:=(mem_cls.mp (hφ b hb).1).2.2;rw [<- h1,<- h2,e]
 have hb:(qbJ S ss).Nodup:=F.nd.filter _
 have hle:(qbJ S ss).length<=((ss.filter fun u=>!(g u).isSome&&(S.rows u).isSome)++qex S ss).length:=by
  rw [<- ya (f:=fun b=>(g (φ b)).getD (φ b))];refine qdC (YF.mpr (Y3 (fun {a b} ha hb' hab e=>?_) hb)) fun x hx=>?_
  ·have hE:∀ c∈qbJ S ss,S.rows (φ c)≠none:=fun c hc=>(mem_cls.mp (hφ c hc).1).2.1;rcases (hφ a ha).2 with z | ⟨w,z,hw⟩<;>rcases (hφ b hb').2 with y | ⟨u,y,hu⟩
   ·rw [z,y] at e;exact hab (inj a ha b hb' e)
   ·rw [z,y] at e;have e':φ a=u:=e;exact hE a ha (by rw [e'];exact (mem_bar.mp hu).2.2)
   ·rw [z,y] at e;have e':w=φ b:=e;exact hE b hb' (by rw [<- e'];exact (mem_bar.mp hw).2.2)
   ·rw [z,y] at e;have e':w=u:=e;have k:=hg.fs z;rw [e',hg.fs y] at k;exact hab (inj a ha b hb' (ym k).symm)
  ·obtain ⟨b,hb',rfl⟩:=yQ.mp hx;obtain ⟨v1,v2,v3⟩:=mem_cls.mp (hφ b hb').1;rcases (hφ b hb').2 with z | ⟨w,z,hw⟩
   ·rw [z];exact yP _ (yp.mpr ⟨v1,by show (!(g (φ b)).isSome&&(S.rows (φ b)).isSome)=true;rw [z,isS.mpr v2];rfl⟩)
   ·rw [z];exact yO _ hw
 rw [F.count,yt] at hle;omega
end
theorem qdD:∀ {qs:List (Str×Str)},pt qs s=some t->(s,t)∈qs\/(t,s)∈qs
 | [],h=>by cases h
 | q::r,h=>by
  unfold pt at h;split at h
  ·rename_i e;cases h;exact .inl (by rw [<- e];simp)
  ·split at h
   ·rename_i e;cases h;exact .inr (by rw [<- e];simp)
   ·rcases qdD h with z | z
    ·exact .inl (yJ _ z)
    ·exact .inr (yJ _ z)
theorem qfG:∀ {qs:List (Str×Str)},(qu qs).Nodup->∀ {a b:Str},(a,b)∈qs\/(b,a)∈qs->pt qs a=some b
 | [],_,a,b,m=>by rcases m with z | z<;>cases z
 | q::r,h,a,b,m=>by
  have hnd:(q.1::q.2::qu r).Nodup:=h;obtain ⟨d1,d2⟩:=yo.mp hnd;obtain ⟨d3,d4⟩:=yo.mp d2;have inr:∀ {x y:Str},(x,y)∈r->x∈qu r/\y∈qu r:=fun hxy=>⟨xp.mpr ⟨_,hxy,by simp⟩,xp.mpr ⟨_,hxy,by simp⟩⟩;unfold pt
  have later:(a,b)∈r\/(b,a)∈r->(if q.1=a then some q.2 else if q.2=a then some q.1 else pt r a)=some b:=fun hm=>by
   have ha:a∈qu r:=hm.elim (fun z=>(inr z).1) fun z=>(inr z).2;rw [yC (fun z=>d1 (by rw [z];exact yJ _ ha)),yC (fun z=>d3 (by rw [z];exact ha))];exact qfG d4 hm
  rcases m with z | z
  ·rcases yB.mp z with z | z
   ·subst z;rw [yF rfl]
   ·exact later (.inl z)
  ·rcases yB.mp z with z | z
   ·subst z;have hne:b≠a:=fun e=>d1 (by show b∈a::_;rw [e];exact yZ);rw [yC hne,yF rfl]
   ·exact later (.inr z)
theorem qed (h:(qu qs).Nodup):pt qs a=some b↔(a,b)∈qs\/(b,a)∈qs:=⟨qdD,qfG h⟩
theorem qee (h:(qu qs).Nodup):pt qs a=some b↔pt qs b=some a:=by
 rw [qed h,qed h,Or.comm]
theorem qef {x y:Option Str} (h:∀ b,x=some b↔y=some b):x=y:=by
 cases x with
 | none=>cases y with
  | none=>rfl
  | some b=>exact absurd ((h b).mpr rfl) (fun z=>by cases z)
 | some a=>exact ((h a).mp rfl).symm
theorem uf:FnScope ["self","place","row"] ["self","place","row"] (qg jR):=fS
structure Fo where
 x:Addr
 b:Addr
 dp:Addr
 dr:Addr
 da:Addr
 ds:Addr
 dg:Addr
 dw:Addr
 ex:List Addr
noncomputable def Fo.six (a:Fo):List Addr:=[a.x,a.dr,a.da,a.ds,a.dg,a.dw]
noncomputable def Fo.all (a:Fo):List Addr:=a.six++a.ex
noncomputable def Fo.tab (a:Fo) (lo:V):List (Str×V):=[("board",.ref a.b),("partners",.ref a.dp),("rows",.ref a.dr),("parents",.ref a.da),("bases",.ref a.ds),("rings",.ref a.dg),("waiting",.ref a.dw),("longer",lo)]
noncomputable def Bx (l:List Addr) (H H':Hp):Prop:=∀ c o,c∉l->H c=some o->H' c=some o
noncomputable def RowV (H:Hp) (l:List Addr) (o:Option V):Option (List Str)->Prop
 | none=>o=none
 | some r=>∃ t,o=some (.ref t)/\H t=some (.lst (r.map V.str))/\t∉l
noncomputable def FoO (cf:Addr) (H:Hp) (a:Fo) (lo:V):Prop:=∃ dx fs,H a.x=some (.ins cf dx fs)/\fs.length<=9/\(lo=.non->fs.length<=8)/\(∀ f v,(f,v)∈a.tab lo->fs.lookup f=some v)/\∀ f,f∉fAtt->fs.lookup f=none
structure FoA (cf cw:Addr) (H0 H:Hp) (a:Fo) (ss:List Str) (ns:List Nat) (qs:List (Str×Str)) (S:FS) (bs dn wt:List Str) (lo:V):Prop where
 sm:L2.Same H0 H
 web:WebAt cw H0 a.b ss ns
 prt:H0 a.dp=some (.dK (prK qs))
 fr:∀ c∈a.six,H0 c=none
 nd:[a.dr,a.da,a.ds,a.dg,a.dw].Nodup
 exf:∀ c∈a.ex,H0 c=none/\c∉a.six/\∃ o,H c=some o
 obj:FoO cf H a lo
 row:∃ kvs,H a.dr=some (.dK kvs)/\kvs.length<=(dn++wt).length/\∀ s,RowV H a.all (jS kvs (.inr s:Key)) (S.rows s)
 par:∃ kvs,H a.da=some (.dK kvs)/\(∃ po:List Str,kvs.length<=po.length/\po.Nodup/\∀ u∈po,u∈ss/\S.par u≠none)/\∀ s,jS kvs (.inr s:Key)=(S.par s).map V.str
 bas:∃ kvs,H a.ds=some (.dK kvs)/\kvs.length<=bs.length/\∀ s∈bs,jS kvs (.inr s:Key)=some (.str (S.bas s))
 rng:∃ xs,H a.dg=some (.lst xs)/\xs.length<=(dn++wt).length
 wai:H a.dw=some (.lst (wt.map V.str))
 evn:(dn++wt).Nodup
 evi:∀ v,v∈dn++wt↔S.rows v≠none
 evs:∀ v∈dn++wt,v∈ss
theorem RowV.mono {l:List Addr} {o:Option V} {r:Option (List Str)} (h:RowV H l o r) {m:List Addr} (k:Bx m H H') (hs:∀ c∈m,c∈l):RowV H' l o r:=by
 cases r with
 | none=>exact h
 | some r=>obtain ⟨t,h1,h2,h3⟩:=h;exact ⟨t,h1,k _ _ (fun z=>h3 (hs _ z)) h2,h3⟩
theorem Fo.sub {a:Fo}:∀ c∈a.six,c∈a.all:=fun c h=>yP _ h
theorem Bx.of {l:List Addr} (s:L2.Same H H'):Bx l H H':=fun c o _ e=>s c o e
theorem Bx.trans {l:List Addr} {H'':Hp} (a:Bx l H H') (b:Bx l H' H''):Bx l H H'':=fun c o n e=>b c o n (a c o n e)
section
variable {cf cw:Addr} {H0 H H':Hp} {a:Fo} {ss:List Str} {ns:List Nat} {qs:List (Str×Str)} {S S':FS} {bs dn wt:List Str} {lo:V}
theorem FoA.same (h:FoA cf cw H0 H a ss ns qs S bs dn wt lo) (s:L2.Same H H'):FoA cf cw H0 H' a ss ns qs S bs dn wt lo:=by
 obtain ⟨dx,fs,h1,h2⟩:=h.obj;obtain ⟨k1,r1,r2,r3⟩:=h.row;obtain ⟨k2,p1,p2⟩:=h.par;obtain ⟨k3,b1,b2⟩:=h.bas;obtain ⟨xs,g1,g2⟩:=h.rng;exact ⟨h.sm.trans s,h.web,h.prt,h.fr,h.nd,fun c hc=>⟨(h.exf c hc).1,(h.exf c hc).2.1,(h.exf c hc).2.2.elim fun o e=>⟨o,s _ _ e⟩⟩,⟨dx,fs,s _ _ h1,h2⟩,⟨k1,s _ _ r1,r2,fun z=>(r3 z).mono (Bx.of (l:=[]) s) (fun c h=>by cases h)⟩,⟨k2,s _ _ p1,p2⟩,⟨k3,s _ _ b1,b2⟩,⟨xs,s _ _ g1,g2⟩,s _ _ h.wai,h.evn,h.evi,h.evs⟩
theorem FoA.six (h:FoA cf cw H0 H a ss ns qs S bs dn wt lo):∀ c∈a.six,∃ o,H c=some o:=fun c hc=>by
 obtain ⟨dx,fs,h1,_⟩:=h.obj;obtain ⟨k1,r1,_⟩:=h.row;obtain ⟨k2,p1,_⟩:=h.par;obtain ⟨k3,b1,_⟩:=h.bas;obtain ⟨xs,g1,_⟩:=h.rng;simp only [Fo.six,yB,yY,YB] at hc;rcases hc with rfl | rfl | rfl | rfl | rfl | rfl
 ·exact ⟨_,h1⟩
 ·exact ⟨_,r1⟩
 ·exact ⟨_,p1⟩
 ·exact ⟨_,b1⟩
 ·exact ⟨_,g1⟩
 ·exact ⟨_,h.wai⟩
theorem FoA.new (h:FoA cf cw H0 H a ss ns qs S bs dn wt lo) {c:Addr} (e:H c=none):c∉a.six:=fun z=>by
 obtain ⟨o,k⟩:=h.six c z;rw [e] at k;cases k
theorem FoA.sep (h:FoA cf cw H0 H a ss ns qs S bs dn wt lo):a.six.Nodup:=by
 obtain ⟨dx,fs,h1,_⟩:=h.obj;obtain ⟨k1,r1,_⟩:=h.row;obtain ⟨k2,p1,_⟩:=h.par;obtain ⟨k3,b1,_⟩:=h.bas;obtain ⟨xs,g1,_⟩:=h.rng;refine yo.mpr ⟨fun z=>?_,h.nd⟩;simp only [yB,yY,YB] at z;rcases z with z | z | z | z | z
 ·rw [z,r1] at h1;cases h1
 ·rw [z,p1] at h1;cases h1
 ·rw [z,b1] at h1;cases h1
 ·rw [z,g1] at h1;cases h1
 ·rw [z,h.wai] at h1;cases h1
theorem FoO.eq (h:FoO cf H a lo) (e:H' a.x=H a.x):FoO cf H' a lo:=by
 obtain ⟨dx,fs,h1,h2⟩:=h;exact ⟨dx,fs,e.trans h1,h2⟩
theorem Bx.upd {l:List Addr} {c:Addr} (k:Bx l H H') (hc:c∈l):Bx l H (upd H' c o):=fun d u n e=>by
 rw [qf (fun z=>n (by rw [z];exact hc))];exact k d u n e
noncomputable def Fo.add (a:Fo) (c:Addr):Fo:={ a with ex:=c::a.ex }
theorem FoA.add (h:FoA cf cw H0 H a ss ns qs S bs dn wt lo) {c:Addr} (e:H c=none):FoA cf cw H0 (upd H c o) (a.add c) ss ns qs S bs dn wt lo:=by
 have g:=h.same (qF (Sr H) (o:=o) e);obtain ⟨k1,r1,r2,r3⟩:=g.row;obtain ⟨k0,r0,_,r4⟩:=h.row
 have ek:k0=k1:=by
  have:=qF (Sr H) (o:=o) e _ _ r0;rw [r1] at this;exact (HO.dK.inj (ym this)).symm
 subst ek;refine ⟨g.sm,g.web,g.prt,g.fr,g.nd,fun d hd=>?_,g.obj,⟨k0,r1,r2,fun z=>?_⟩,g.par,g.bas,g.rng,g.wai,g.evn,g.evi,g.evs⟩
 ·rcases yB.mp hd with rfl | hd
  ·exact ⟨h.sm.free e,h.new e,_,qb⟩
  ·exact g.exf d hd
 ·have g1:=r3 z;have g2:=r4 z
  cases er:S.rows z with
  | none=>rw [er] at g1;exact g1
  | some r =>
   rw [er] at g1 g2;obtain ⟨t,k1,k2,k3⟩:=g1;obtain ⟨t',j1,j2,_⟩:=g2;rw [k1] at j1;cases j1;refine ⟨t,k1,k2,fun y=>?_⟩;rcases yz.mp y with y | y
   ·exact k3 (yP _ y)
   ·rcases yB.mp y with y | y
    ·rw [y,e] at j2;cases j2
    ·exact k3 (yO _ y)
theorem FoA.updE (h:FoA cf cw H0 H a ss ns qs S bs dn wt lo) {c:Addr} (hc:c∈a.ex):FoA cf cw H0 (upd H c o) a ss ns qs S bs dn wt lo:=by
 obtain ⟨h0,h6,_⟩:=h.exf c hc;have ne:∀ {d:Addr},d∈a.six->upd H c o d=H d:=fun hd=>qf fun z=>h6 (by rw [<- z];exact hd);obtain ⟨k1,r1,r2,r3⟩:=h.row;obtain ⟨k2,p1,p2⟩:=h.par;obtain ⟨k3,b1,b2⟩:=h.bas;obtain ⟨xs,g1,g2⟩:=h.rng;refine ⟨qaH h.sm h0,h.web,h.prt,h.fr,h.nd,fun d hd=>⟨(h.exf d hd).1,(h.exf d hd).2.1,by by_cases z:d=c;exact ⟨_,by rw [z,qb]⟩;rw [qf z];exact (h.exf d hd).2.2⟩,h.obj.eq (ne (by simp [Fo.six])),⟨k1,(ne (by simp [Fo.six])).trans r1,r2,fun z=>(r3 z).mono (m:=[c]) (fun d u n e=>by rw [qf (fun y=>n (by rw [y];simp))];exact e) fun d hd=>by rw [yy.mp hd];exact yO _ hc⟩,⟨k2,(ne (by simp [Fo.six])).trans p1,p2⟩,⟨k3,(ne (by simp [Fo.six])).trans b1,b2⟩,⟨xs,(ne (by simp [Fo.six])).trans g1,g2⟩,(ne (by simp [Fo.six])).trans h.wai,h.evn,h.evi,h.evs⟩
theorem FoA.drop (h:FoA cf cw H0 H a ss ns qs S bs dn wt lo) {l:List Addr} (hs:∀ c∈l,c∈a.ex):FoA cf cw H0 H { a with ex:=l } ss ns qs S bs dn wt lo:=by
 obtain ⟨k1,r1,r2,r3⟩:=h.row;refine ⟨h.sm,h.web,h.prt,h.fr,h.nd,fun c hc=>h.exf c (hs c hc),h.obj,⟨k1,r1,r2,fun z=>?_⟩,h.par,h.bas,h.rng,h.wai,h.evn,h.evi,h.evs⟩;have g1:=r3 z
 cases er:S.rows z with
 | none=>rw [er] at g1;exact g1
 | some r =>
  rw [er] at g1;obtain ⟨t,k1,k2,k3⟩:=g1;exact ⟨t,k1,k2,fun y=>k3 ((yz.mp y).elim (fun z=>yP _ z) fun z=>yO _ (hs _ z))⟩
theorem FoA.newA (h:FoA cf cw H0 H a ss ns qs S bs dn wt lo) {c:Addr} (e:H c=none):c∉a.all:=fun z=>by
 rcases yz.mp z with z | z
 ·exact h.new e z
 ·obtain ⟨o,k⟩:=(h.exf c z).2.2;rw [e] at k;cases k
theorem FoA.few (h:FoA cf cw H0 H a ss ns qs S bs dn wt lo):(dn++wt).length<=ss.length:=zz h.evn h.evs
end
noncomputable def FS.setRow (S:FS) (p:Str) (r:List Str):FS:=⟨fun s=>if s=p then some r else S.rows s,S.par,S.bas⟩
inductive spRe (cc:Nat->Addr) (cw:Addr) (vs:List V) (H:Hp) (Q:VK) (E:XK):Prop|mk (H0:Hp) (a:Fo) (ss:List Str) (ns:List Nat) (qs:List (Str×Str)) (S:FS) (bs dn wt:List Str) (lo:V) (p:Str) (t:Addr) (r:List Str) (_:vs=[.ref a.x,.str p,.ref t]) (_:FoA (cc 9) cw H0 H a ss ns qs S bs dn wt lo) (_:ss.length<=14) (_:H t=some (.lst (r.map V.str))) (_:t∉a.all) (_:p∈ss) (_:S.rows p=none) (_:∀ H',FoA (cc 9) cw H0 H' a ss ns qs (S.setRow p r) bs dn (wt++[p]) lo->Bx a.six H H'->(∀ o,H a.dg=some o->H' a.dg=some o)->Q .non H')
inductive spBd (cc:Nat->Addr) (cw:Addr) (vs:List V) (H:Hp) (Q:VK) (E:XK):Prop|mk (H0:Hp) (a:Fo) (ss:List Str) (ns:List Nat) (qs:List (Str×Str)) (S:FS) (dn wt:List Str) (lo:V) (p:Str) (r l:List Str) (A:Str->Str->Prop) (_:vs=[.ref a.x,.str p]) (_:FoA (cc 9) cw H0 H a ss ns qs S ss dn wt lo) (_:ss.length<=14) (_:FI A (pt qs) S) (_:S.rows p=some r) (_:Ch (pt qs) S (S.bas p) l) (_:l.length<=14) (_:∀ (t:Addr) (H':Hp),L2.Same H H'->H t=none->H' t=some (.lst (l.map V.str))->Q (.ref t) H')
section
variable {P:Program} {w:World} {K:W.Frag} {mg:Str->Option Value} {base:Heap} {cc:Nat->Addr} {cw:Addr} {H0 H:Hp} {a:Fo} {ss:List Str} {ns:List Nat} {qs:List (Str×Str)} {S:FS} {bs dn wt:List Str} {lo:V}
theorem FoO.rd {Q:V->Prop} {f:Str} {v:V} (h:FoO (cc 9) H a lo) (T:Txt K mg cc cw) (i:Nat) (e:(a.tab lo)[i]?=some (f,v)) (q:Q v):∃ (c C dx:Addr) (fs:List (Str×V)) (u:V),V.ref a.x=.ref c/\H c=some (.ins C dx fs)/\Cls K C/\NoAttr K C f/\fs.lookup f=some u/\Q u:=by
 obtain ⟨dx,fs,h1,_,_,h4,_⟩:=h;refine ⟨a.x,cc 9,dx,fs,v,rfl,h1,T.fcl,T.fa f ?_,h4 f v (ye e),q⟩;have:((a.tab lo).map Prod.fst)[i]?=some f:=by rw [yd,e];rfl
 exact ye (l:=fAtt) (i:=i) this
theorem ok_re (F:Fun K "reach" "Forest.reach" jR f fd) (T:Txt K mg cc cw):FnOk P w K mg base CX0 1 f fd ["self","place","row"] (spRe cc cw):=by
 refine F.ok uf fun _ _ _ _ H vs Q E hr h=>?_
 ·obtain ⟨H0,a,ss,ns,qs,S,bs,dn,wt,lo,p,t,r,rfl,h,h14,ht,htn,hps,hpn,q⟩:=h;have hu:=jP hr;have hfew:=h.few;have hpe:p∉dn++wt:=fun z=>(h.evi p).mp z hpn;refine ⟨_,(qc (jK (pv 2) (jJ (qA (K:=K) rfl (pv 0) rfl) (pv 1) (jL hu)))
 (qe (qL (qaW (K:=K) rfl yD y0 Yb qI (qA (K:=K) rfl (pv 0) rfl) (qa (pv 1) qd))))),?_⟩
  ext;obtain ⟨⟨n1,n2,n3,n4,n5⟩,⟨n6,n7,n8,n9⟩,⟨n10,n11,n12⟩,⟨n13,n14⟩,n15⟩:=(by simpa [Fo.six] using h.sep:(¬a.x=a.dr/\¬a.x=a.da/\¬a.x=a.ds/\¬a.x=a.dg/\¬a.x=a.dw)/\(¬a.dr=a.da/\¬a.dr=a.ds/\¬a.dr=a.dg/\¬a.dr=a.dw)/\(¬a.da=a.ds/\¬a.da=a.dg/\¬a.da=a.dw)/\(¬a.ds=a.dg/\¬a.ds=a.dw)/\¬a.dg=a.dw);obtain ⟨kr,r1,r2,r3⟩:=h.row;obtain ⟨ka,p1,p2,p3⟩:=h.par;obtain ⟨ks,b1,b2,b3⟩:=h.bas;obtain ⟨xs,g1,g2⟩:=h.rng;refine .inl (h.obj.rd T 2 rfl ?_);ext;refine .inr ⟨a.dr,_,rfl,DPut.k (k:=Sum.inr p) r1 (by rw [YC];omega),?_⟩;have o1:FoO (cc 9) (upd H a.dr (.dK (zD kr (Sum.inr p) (.ref t)))) a lo:=h.obj.eq (qf n1);have w1:upd H a.dr (.dK (zD kr (Sum.inr p) (.ref t))) a.dw=some (.lst (wt.map V.str)):=by rw [qf (Yn n9)];exact h.wai
  ext;refine .inl (o1.rd T 6 rfl ?_);refine ⟨.inl ⟨rfl,_,.of w1⟩,?_⟩;ext;refine ⟨a.dw,_,_,rfl,rfl,w1,by rw [ya];exact qi (by rw [yt] at hfew;omega),?_⟩;have hx:∀ {c:Addr} {o o':HO},c∉a.six->upd (upd H a.dr o) a.dw o' c=H c:=fun hc=>by rw [qf (fun z=>hc (by rw [z];simp [Fo.six])),qf (fun z=>hc (by rw [z];simp [Fo.six]))]
  have bx:Bx a.six H (upd (upd H a.dr (.dK (zD kr (Sum.inr p) (.ref t)))) a.dw (.lst (wt.map V.str++[.str p]))):=fun c o n e=>by rw [hx n];exact e
  refine q _ ⟨qaH (qaH h.sm (h.fr _ (by simp [Fo.six]))) (h.fr _ (by simp [Fo.six])),h.web,h.prt,h.fr,h.nd,fun c hc=>⟨(h.exf c hc).1,(h.exf c hc).2.1,(h.exf c hc).2.2.elim fun o e=>⟨o,bx _ _ (h.exf c hc).2.1 e⟩⟩,o1.eq (qf n5),⟨_,by rw [qf n9,qb],?_,fun z=>?_⟩,⟨ka,by rw [qf n12,qf (Yn n6)];exact p1,p2,p3⟩,⟨ks,by rw [qf n14,qf (Yn n7)];exact b1,b2,b3⟩,⟨xs,by rw [qf n15,qf (Yn n8)];exact g1,?_⟩,by rw [qb,yu];rfl,?_,fun v=>?_,fun v hv=>?_⟩ bx fun o e=>by (rw [qf n15,qf (Yn n8)];exact e)
  ·have:=jm kr (Sum.inr p:Key) (.ref t);rw [<- Yj,yt (bs:=[p])];show _<=_ + 1;omega
  ·unfold FS.setRow;dsimp only;rw [qad];by_cases e:z=p
   ·subst e;rw [yF rfl,yF rfl];exact ⟨t,rfl,bx _ _ (fun y=>htn (Fo.sub _ y)) ht,htn⟩
   ·rw [yC (fun y=>e (xn y)),yC e];exact (r3 z).mono bx Fo.sub
  ·rw [<- Yj,yt (bs:=[p])];exact ki g2
  ·rw [<- Yj];exact Yg.mpr ⟨h.evn,Y9 _ _,fun x hx y hy e=>hpe (by rw [<- yy.mp hy,<- e];exact hx)⟩
  ·rw [<- Yj,yz,yy,h.evi];unfold FS.setRow;dsimp only;by_cases e:v=p
   ·subst e;rw [yF rfl];exact ⟨(fun _ z=>by cases z),fun _=>.inr rfl⟩
   ·rw [yC e];exact ⟨fun z=>z.resolve_right e,.inl⟩
  ·rw [<- Yj] at hv;rcases yz.mp hv with z | z
   ·exact h.evs v z
   ·rw [yy.mp z];exact hps
end
theorem Kb:FnScope ["self","place","bases","below"] ["self","place"] (qg qO):=fS
theorem atI_last {xs:List Str}:atI ((xs++[c]).map V.str) (-1)=some (.str c):=by
 have e:ixN ((xs++[c]).map V.str).length (-1)=some xs.length:=by
  unfold ixN;rw [yC (by omega),yF (by rw [ya,yt];simp;omega)]
  congr 1
  rw [ya,yt];simp only [yA,YM];omega
 unfold atI;rw [e];show ((xs++[c]).map V.str)[xs.length]?=_;rw [yd,yI (yh _),kI];rfl
theorem Ch.cases' {f:Str->Option Str} {t:List Str} (h:Ch f S b (b::t)):(f b=none/\t=[])\/∃ q z,f b=some q/\S.par q=some z/\Ch f S (S.bas z) t:=by
 generalize e:b::t=l at h
 cases h with
 | root h=>cases e;exact .inl ⟨h,rfl⟩
 | step h1 h2 h3=>cases e;exact .inr ⟨_,_,h1,h2,h3⟩
theorem in_prK {d:Addr} {Q:VK} (hd:H d=some (.dK (prK qs))) (q:Q (.bl (pt qs s).isSome) H):qev K false (.str s) (.ref d) H Q:=by
 refine .inr (.inl ⟨d,_,rfl,DGet.k (k:=Sum.inr s) hd,?_⟩);rw [jD,yC (by decide),xA];exact q
theorem qeg {d:Addr} {v:V} {Q:VK} (hd:H d=some (.dK kvs)) (e:jS kvs (.inr s:Key)=some v) (q:Q v H):qfN K (.ref d) (.str s) H Q:=.inr ⟨d,v,rfl,by rw [<- e];exact DGet.k (k:=Sum.inr s) hd,q⟩
theorem ok_bd (F:Fun K "bases_down_from" "Forest.bases_down_from" qO f fd) (T:Txt K mg cc cw):FnOk P w K mg base CX0 1 f fd ["self","place"] (spBd cc cw):=by
 refine F.ok Kb fun _ _ _ _ H vs Q E hr h=>?_
 ·obtain ⟨H0,a,ss,ns,qs,S,dn,wt,lo,p,r,l,B,rfl,h,h14,I,hp,hch,hl14,q⟩:=h;have hu:=jP hr;refine ⟨_,(qc (qj (i:=2) Kb.nd rfl (yE rfl) (qM (qa (qr (qt (K:=K) rfl hu) (qA (K:=K) rfl (pv 0) rfl) (pv 1) (fun _ _=>rfl)) qd)))
 (qc (zZ yV (qo (zS (K:=K) rfl hu) (qr (qt (K:=K) rfl hu) (pv 2) (qbk qay qh) (fun _ _=>rfl)) (qA (K:=K) rfl (pv 0) rfl) (by with_unfolding_all rfl))
 (qc (qj (i:=3) Kb.nd rfl (yE rfl) (qr (qt (K:=K) rfl hu) (qA (K:=K) rfl (pv 0) rfl) (qr (qt (K:=K) rfl hu) (qA (K:=K) rfl (pv 0) rfl) (qr (qt (K:=K) rfl hu) (pv 2) (qbk qay qh) (fun _ _=>rfl)) (fun _ _=>rfl)) (fun _ _=>rfl)))
 (qe (qL (qaW (K:=K) rfl yD y0 Yb qI (pv 2) (qa (qr (qt (K:=K) rfl hu) (qA (K:=K) rfl (pv 0) rfl) (pv 3) (fun _ _=>rfl)) qd))))))
 (qe (qm (pv 2))))),?_⟩
  have evS:∀ {v:Str} {r:List Str},S.rows v=some r->v∈ss:=fun e=>h.evs _ ((h.evi _).mpr (by rw [e];exact fun z=>by cases z));obtain ⟨ks,b1,b2,b3⟩:=h.bas;ext;refine .inl (h.obj.rd T 4 rfl ?_);ext;refine qeg b1 (b3 p (evS hp)) ?_;ext;refine ⟨by show 1<=sizeLine;decide,fun bl hbl=>?_⟩;have s1:=qF (Sr H) (o:=.lst [.str (S.bas p)]) hbl;have e1:upd H bl (.lst [.str (S.bas p)]) bl=some (.lst (([]++[S.bas p]).map V.str)):=qb;generalize upd H bl (.lst [.str (S.bas p)])=H1 at s1 e1;ext;obtain ⟨W,hW0⟩:∃ W:Nat->L2.St->Hp->Prop,W=fun m σ J=>∃ (l1 l2:List Str) (c:Str) (y3:Option V),l=l1++c::l2/\σ=[some (.ref a.x),some (.str p),some (.ref bl),y3]/\L2.Same H J/\J bl=some (.lst ((l1++[c]).map V.str))/\m=l2.length:=⟨_,rfl⟩;obtain ⟨t0,et0⟩:=hch.ne;refine ⟨W,⟨t0.length,by rw [hW0];exact ⟨[],t0,_,_,et0,rfl,s1,e1,rfl⟩⟩,fun m σ J hW=>?_⟩;rw [hW0] at hW;obtain ⟨l1,l2,c,y3,el,rfl,sJ,eJ,hm⟩:=hW;obtain ⟨rc,_,hrc,hcc,hchc,_⟩:=hch.up I hp rfl el;have hJ:=h.same sJ;have hpJ:=hJ.sm _ _ h.prt;ext;refine ⟨1,rfl,?_⟩;refine .inl (qae eJ (v:=.str c) atI_last ?_);ext;refine .inl (hJ.obj.rd T 1 rfl ?_);refine in_prK hpJ ?_;rcases hchc.cases' with ⟨hf,rfl⟩ | ⟨q',z,hf,hpz,hcz⟩
  ·rw [hf];refine ⟨_,rfl,qP (fun h=>by cases h) fun _=>?_⟩;ext;exact q bl J sJ hbl (by rw [el];exact eJ)
  ·rw [hf];refine ⟨_,rfl,zN ⟨fun σ' H'=>∃ m',m' < m/\W m' σ' H',fun σ' H' z=>z,?_⟩⟩;obtain ⟨_,z',rz,hpz',hrz,_⟩:=I.dwn c rc q' hrc hcc hf;rw [hpz] at hpz';cases hpz';obtain ⟨ka,p1,p2,p3⟩:=hJ.par;obtain ⟨ks',b1',b2',b3'⟩:=hJ.bas;ext;refine .inl (hJ.obj.rd T 3 rfl ?_);ext;refine .inl (hJ.obj.rd T 1 rfl ?_);ext;refine ⟨1,rfl,?_⟩;refine .inl (qae eJ (v:=.str c) atI_last ?_);refine qeg hpJ (by rw [jD,hf];rfl) ?_;refine qeg p1 (by rw [p3,hpz];rfl) ?_;ext;refine ⟨.inl ⟨rfl,_,.of eJ⟩,?_⟩;ext;refine .inl (hJ.obj.rd T 4 rfl ?_);ext;refine qeg b1' (b3' z (evS hrz)) ?_;ext;refine ⟨bl,_,_,rfl,rfl,eJ,by rw [ya];exact qi (by have:=congrArg List.length el;rw [yt,yA] at this;rw [yt];simp only [yA,YM];omega),?_⟩;obtain ⟨t1,et1⟩:=hcz.ne;rw [hW0];refine ⟨t1.length,by rw [hm,et1];simp,l1++[c],t1,S.bas z,_,by rw [el,et1];simp,rfl,qaH sJ hbl,by rw [qb,yu (l₁:=l1++[c])];rfl,rfl⟩
theorem k7:FnScope ["self","one","other","bases","side","base","place","row"] ["self","one","other","bases"] (qg jc):=fS
structure RR (f:Str->Option Str) (S S':FS) (v w:Str) (cs:List Str):Prop where
 par:S'.par=S.par
 bas:S'.bas=S.bas
 old:∀ u r,S.rows u=some r->S'.rows u=some r
 new:∀ u r,S'.rows u=some r->S.rows u=some r\/∃ c∈cs,f c=some u/\NewRow S v w u r
 all:∀ c∈cs,∀ q,f c=some q->∃ r,S'.rows q=some r
inductive spRr (cc:Nat->Addr) (cw:Addr) (vs:List V) (H:Hp) (Q:VK) (E:XK):Prop|mk (H0:Hp) (a:Fo) (ss:List Str) (ns:List Nat) (qs:List (Str×Str)) (S:FS) (dn wt:List Str) (lo:V) (v w:Str) (lb:Addr) (cs rv rw:List Str) (_:vs=[.ref a.x,.str v,.str w,.ref lb]) (_:FoA (cc 9) cw H0 H a ss ns qs S ss dn wt lo) (_:ss.length<=14) (_:H lb=some (.lst (cs.map V.str))) (_:lb∉a.six) (_:S.rows v=some rv) (_:S.rows w=some rw) (_:rv.length<=14) (_:rw.length<=14) (_:rv.Nodup) (_:cs.Nodup) (_:cs.length<=14) (_:(qu qs).Nodup) (_:(∀ c∈cs,∃ q rz t,pt qs c=some q/\S.rows q=none/\q∈ss/\rv=rz++q::t)) (_:∀ (t:Addr) (sd more:List Str) (H':Hp) (S':FS),FoA (cc 9) cw H0 H' (a.add t) ss ns qs S' ss dn (wt++more) lo->Bx a.six H H'->H t=none->H' t=some (.lst (sd.map V.str))->(∀ u,u∈sd↔∃ c∈cs,u=c\/pt qs c=some u)->sd.length=2 * cs.length->more.length=cs.length->RR (pt qs) S S' v w cs->(∀ o,H a.dg=some o->H' a.dg=some o)->Q (.ref t) H')
theorem qdb {t:List Str} {q:Str} (hn:(rz++q::t).Nodup):(rz++q::t).idxOf q=rz.length:=by
 exact qcJ hn (by rw [yI (yh _),kI];rfl)
theorem qeG {a b:Addr} {Q:VK} (ea:G a=some (.lst xs)) (eb:G b=some (.lst ys)) (hl:xs.length + ys.length<=1000) (q:∀ p,G p=none->Q (.ref p) (upd G p (.lst (xs++ys)))):qcy K (.ref a) (.ref b) G Q:=.inl ⟨a,b,_,_,rfl,rfl,ea,eb,yi hl (by decide),q⟩
theorem ok_rr (F:Fun K "reach_round" "Forest.reach_round" jc f fd) (T:Txt K mg cc cw) (Kj:MethOk P w K mg base CX0 1 (cc 9) "reach" ["self","place","row"] (spRe cc cw)):FnOk P w K mg base CX0 2 f fd ["self","one","other","bases"] (spRr cc cw):=by
 refine F.ok k7 fun _ _ _ _ H vs Q E hr h=>?_
 ·obtain ⟨H0,a,ss,ns,qs,S,dn,wt,lo,v,w,lb,cs,rv,rw',rfl,h,h14,hlb,hl6,hv,hw,hvl,hwl,hvn,hcn,hcl,hqn,hcs,q⟩:=h;have hu:=jP hr;refine ⟨_,(qc (qj (i:=4) k7.nd rfl (yE rfl) (qM qd))
 (qc (ji yV rfl (qQ (K:=K) rfl (pv 3)) (qq (i:=5) k7.nd rfl (yE rfl))
 (qc (qj (i:=6) k7.nd rfl (yE rfl) (qr (qt (K:=K) rfl hu) (qA (K:=K) rfl (pv 0) rfl) (pv 5) (fun _ _=>rfl)))
 (qc (qj (i:=7) k7.nd rfl (yE rfl) (qr (qt (K:=K) rfl hu) (qA (K:=K) rfl (pv 0) rfl) (pv 1) (fun _ _=>rfl)))
 (qc (qL (qE Kj (hmR hr) (pv 0) (qa (pv 6) (qa (qx (j3 (K:=K) rfl) (qr (qt (K:=K) rfl hu) (qA (K:=K) rfl (pv 0) rfl) (pv 2) (fun _ _=>rfl)) (qeP (K:=K) rfl (jf (qc2 (K:=K) rfl) (pv 7) (jk (qaW (K:=K) rfl yD Y6 xS (qb5 (K:=K) rfl) (pv 7) (qa (pv 6) qd))) jz) (jk (qbk qay qh)))) qd))))
 (qe (qL (qaW (K:=K) rfl yD xE xF qag (pv 4) (qa (qM (qa (pv 5) (qa (pv 6) qd))) qd))))))))
 (qe (qm (pv 4))))),?_⟩
  ext;refine ⟨by show 0<=sizeLine;decide,fun sd hsd=>?_⟩;have s1:=qF (Sr H) (o:=.lst []) hsd;have h1:=h.add (o:=.lst []) hsd;have e1:upd H sd (.lst []) sd=some (.lst (([]:List Str).map V.str)):=qb;have nsl:lb≠sd:=fun z=>by rw [z,hsd] at hlb;cases hlb
  generalize upd H sd (.lst [])=H1 at s1 h1 e1;ext;obtain ⟨LI,hLI⟩:∃ LI:Nat->L2.St->Hp->Prop,LI=fun i σ J=>∃ (S':FS) (more sl:List Str) (y5 y6 y7:Option V),σ=[some (.ref a.x),some (.str v),some (.str w),some (.ref lb),some (.ref sd),y5,y6,y7]/\FoA (cc 9) cw H0 J (a.add sd) ss ns qs S' ss dn (wt++more) lo/\Bx a.six H J/\J sd=some (.lst (sl.map V.str))/\(∀ u,u∈sl↔∃ c∈cs.take i,u=c\/pt qs c=some u)/\sl.length=2 * i/\more.length=i/\RR (pt qs) S S' v w (cs.take i)/\∀ o,H a.dg=some o->J a.dg=some o:=⟨_,rfl⟩;refine .inl ⟨⟨_,.of (s1 _ _ hlb)⟩,qV (xs:=cs.map V.str) LI (by rw [hLI];exact ⟨S,[],[],_,_,_,rfl,by rw [Yi];exact h1,Bx.of s1,e1,fun u=>by simp,rfl,rfl,⟨rfl,rfl,fun _ _ e=>e,fun _ _ e=>.inl e,fun c hc=>by simp at hc⟩,fun o e=>s1 _ _ e⟩) (fun i σ J _ hp=>?_) (fun i y σ J hy hp=>?_) fun σ J hp=>?_⟩
  ·rw [hLI] at hp;obtain ⟨S',more,sl,y5,y6,y7,rfl,hJ,bx,_⟩:=hp;exact .of (bx _ _ hl6 hlb)
  ·rw [hLI] at hp;obtain ⟨S',more,sl,y5,y6,y7,rfl,hJ,bx,eJ,hsl,hsll,hml,hR,hdg⟩:=hp;rw [yd] at hy;obtain ⟨c,hc,rfl⟩:=yn.mp hy;have hcm:=ye hc;obtain ⟨z,rz,t,hz,hzn,hzs,erv⟩:=hcs c hcm;have hil:i < cs.length:=(yc.mp hc).1;have htk:cs.take (i + 1)=cs.take i++[c]:=by rw [yH,hc];rfl
   have hpJ:=hJ.sm _ _ h.prt;obtain ⟨kr,r1,r2,r3⟩:=hJ.row
   have rowOf:∀ {u:Str} {r:List Str},S.rows u=some r->∃ t,jS kr (.inr u:Key)=some (.ref t)/\J t=some (.lst (r.map V.str)):=fun {u r} e=>by
    have:=r3 u;rw [hR.old u r e] at this;obtain ⟨t,k1,k2,_⟩:=this;exact ⟨t,k1,k2⟩
   obtain ⟨tv,kv,ev⟩:=rowOf hv;obtain ⟨tw,kw,ew⟩:=rowOf hw;ext;refine .inl (hJ.obj.rd T 1 rfl ?_);ext;refine qeg hpJ (by rw [jD,hz];rfl) ?_;ext;refine .inl (hJ.obj.rd T 2 rfl ?_);ext;refine qeg r1 kv ?_;ext;obtain ⟨dx,fs,hx1,_,_,_,hx2⟩:=id hJ.obj;refine ⟨a.x,dx,fs,rfl,hx1,hx2 _ (by decide +kernel),?_⟩;ext;refine .inl (hJ.obj.rd T 2 rfl ?_);ext;refine qeg r1 kw ?_;ext;refine qgl ?_;ext;refine ⟨.inl ⟨rfl,_,.of ev⟩,?_⟩;ext;refine ⟨tv,rv,z,rfl,rfl,.of ev,by rw [erv];simp,_,rfl,?_⟩;rw [erv] at hvn;have eix:rv.idxOf z=rz.length:=by rw [erv];exact qdb hvn
   rw [eix];ext;refine .inl ⟨tv,_,rfl,.of ev,fun c1 hc1=>?_⟩;have ecut:qb0 (rv.map V.str) (some ((rz.length:Nat):Int)) none=(z::t).map V.str:=by rw [qaF,erv,yu,List.drop_left' (by simp)]
   rw [ecut];have t1:=qF (Sr J) (o:=.lst ((z::t).map V.str)) hc1;have ec1:upd J c1 (.lst ((z::t).map V.str)) c1=some (.lst ((z::t).map V.str)):=qb;generalize upd J c1 (.lst ((z::t).map V.str))=J1 at t1 ec1;ext;refine ⟨1,rfl,?_⟩;refine ⟨_,rfl,rfl,c1,_,rfl,.of ec1,fun c2 hc2=>?_⟩;have t2:=qF t1 (o:=.lst ((z::t).map V.str).reverse) hc2;have ec2:upd J1 c2 (.lst ((z::t).map V.str).reverse) c2=some (.lst ((z::t).reverse.map V.str)):=by rw [qb,kE]
   generalize upd J1 c2 (.lst ((z::t).map V.str).reverse)=J2 at t2 ec2;have htl:(z::t).length<=14:=by rw [erv,yt] at hvl;omega
   refine qeG (t2 _ _ ew) ec2 (by rw [ya,ya,Yt];omega) fun c3 hc3=>?_;have hJ2:=hJ.same t2;have n3:=hJ2.newA hc3;have t3:=qF t2 (o:=.lst (rw'.map V.str++(z::t).reverse.map V.str)) hc3;have ec3:upd J2 c3 (.lst (rw'.map V.str++(z::t).reverse.map V.str)) c3=some (.lst ((rw'++(z::t).reverse).map V.str)):=by rw [qb,yu]
   generalize upd J2 c3 (.lst (rw'.map V.str++(z::t).reverse.map V.str))=J3 at t3 ec3
   have hcni:c∉cs.take i:=fun y=>by
    obtain ⟨j,hj⟩:=yf y;have hjl:=(yc.mp hj).1;rw [yL] at hjl;rw [List.getElem?_take,yF (by omega)] at hj;have:=qz hcn hj hc;omega
   have hzn':S'.rows z=none:=by
    cases e:S'.rows z with
    | none=>rfl
    | some r =>
     exfalso;rcases hR.new z r e with y | ⟨c',hc',y,_⟩
     ·rw [hzn] at y;cases y
     ·have e1:=(qee hqn).mp y;rw [(qee hqn).mp hz] at e1;rw [<- ym e1] at hc';exact hcni hc'
   ext;refine ⟨H0,a.add sd,ss,ns,qs,S',ss,dn,wt++more,lo,z,c3,rw'++(z::t).reverse,rfl,hJ.same t3,h14,ec3,n3,hzs,hzn',fun J4 h4 bx4 hdg4=>?_⟩;have sd6:sd∉a.six:=h.new hsd;have eJ4:J4 sd=some (.lst (sl.map V.str)):=bx4 _ _ sd6 (t3 _ _ eJ);ext;refine ⟨.inl ⟨rfl,_,.of eJ4⟩,?_⟩;ext;refine ⟨by show 2<=sizeLine;decide,fun c5 hc5=>?_⟩;have t5:=qF (Sr J4) (o:=.lst [.str c,.str z]) hc5;have ec5:upd J4 c5 (.lst [.str c,.str z]) c5=some (.lst [.str c,.str z]):=qb;generalize upd J4 c5 (.lst [.str c,.str z])=J5 at t5 ec5;have h5:=h4.same t5;ext;refine ⟨sd,c5,_,_,rfl,rfl,t5 _ _ eJ4,ec5,by rw [ya,YC];show _ + 2<=_;omega,?_⟩;have h6:=h5.updE (c:=sd) (o:=.lst (sl.map V.str++[.str c,.str z])) yZ;rw [hLI];refine ⟨S'.setRow z (rw'++(z::t).reverse),more++[z],sl++[c,z],_,_,_,rfl,by rw [<- Yj wt];exact h6,?_,by rw [qb,yu];rfl,fun u=>?_,by rw [yt,hsll];show _ + 2=_;omega,by rw [yt,hml];rfl,⟨hR.par,hR.bas,fun u r e=>?_,fun u r e=>?_,fun c' hc' q' e=>?_⟩,fun o e=>?_⟩
   ·exact fun d o n e=>by
     have ne:d≠sd:=fun y=>by rw [y,hsd] at e;cases e
     rw [qf ne];exact t5 _ _ (bx4 _ _ n (t3 _ _ (bx _ _ n e)))
   ·rw [htk,yz,hsl];simp only [yz,yB,yY,YB];constructor
    ·rintro (⟨c',h1,h2⟩ | rfl | rfl)
     ·exact ⟨c',.inl h1,h2⟩
     ·exact ⟨u,.inr rfl,.inl rfl⟩
     ·exact ⟨c,.inr rfl,.inr hz⟩
    ·rintro ⟨c',h1 | rfl,h2⟩
     ·exact .inl ⟨c',h1,h2⟩
     ·rcases h2 with h2 | h2
      ·exact .inr (.inl h2)
      ·rw [hz] at h2;exact .inr (.inr (ym h2).symm)
   ·show (if u=z then _ else S'.rows u)=_;rw [yC (fun y=>by rw [y,hzn] at e;cases e)];exact hR.old u r e
   ·have e':(if u=z then some (rw'++(z::t).reverse) else S'.rows u)=some r:=e;by_cases y:u=z
    ·subst y;rw [yF rfl] at e';exact .inr ⟨c,by rw [htk];simp,hz,rv,rw',rz,t,hv,hw,erv,(ym e').symm⟩
    ·rw [yC y] at e';rcases hR.new u r e' with x | ⟨c',h1,h2⟩
     ·exact .inl x
     ·exact .inr ⟨c',by rw [htk];exact yP _ h1,h2⟩
   ·show ∃ r,(if q'=z then some (rw'++(z::t).reverse) else S'.rows q')=some r;by_cases y:q'=z
    ·rw [yF y];exact ⟨_,rfl⟩
    ·rw [yC y];rw [htk] at hc';rcases yz.mp hc' with x | x
     ·exact hR.all c' x q' e
     ·rw [yy.mp x,hz] at e;exact absurd (ym e).symm y
   ·have ne:a.dg≠sd:=fun y=>sd6 (by rw [<- y];simp [Fo.six]);rw [qf ne];exact t5 _ _ (hdg4 o (t3 _ _ (hdg o e)))
  ·rw [hLI] at hp;obtain ⟨S',more,sl,y5,y6,y7,rfl,hJ,bx,eJ,hsl,hsll,hml,hR,hdg⟩:=hp;rw [ya] at hsll hml;rw [ya,yM] at hsl hR;ext;exact q sd sl more J S' hJ bx hsd eJ hsl hsll hml hR hdg
theorem KC:FnScope ["self","ring","meeting","within","place"] ["self","ring","meeting"] (qg jE):=fS
noncomputable def FS.setBas (S:FS) (l:List Str) (m:Str):FS:=⟨S.rows,S.par,fun u=>if u∈l then m else S.bas u⟩
noncomputable def wnL (S:FS) (ss rg:List Str) (m:Str):List Str:=ss.filter fun u=>decide (S.bas u∈rg++[m])
inductive spFd (cc:Nat->Addr) (cw:Addr) (vs:List V) (H:Hp) (Q:VK) (E:XK):Prop|mk (H0:Hp) (a:Fo) (ss:List Str) (ns:List Nat) (qs:List (Str×Str)) (S:FS) (dn wt:List Str) (lo:V) (lr:Addr) (rg:List Str) (m:Str) (xs:List V) (_:vs=[.ref a.x,.ref lr,.str m]) (_:FoA (cc 9) cw H0 H a ss ns qs S ss dn wt lo) (_:ss.length<=14) (_:H lr=some (.lst (rg.map V.str))) (_:lr∉a.six) (_:rg.length<=100) (_:H a.dg=some (.lst xs)) (_:xs.length < (dn++wt).length) (_:∀ H',FoA (cc 9) cw H0 H' a ss ns qs (S.setBas (wnL S ss rg m) m) ss dn wt lo->Bx a.six H H'->Q .non H')
theorem put_len {k:Key} {v u:V} (h:jS kvs k=some u):(zD kvs k v).length=kvs.length:=by
 unfold zD;rw [qac,h];exact ya _
theorem qeh {n:Addr} {Q:VK} (hn:H n=some (.lst (ss.map V.str))) (q:Q (.bl (decide (z∈ss))) H):qev K false (.str z) (.ref n) H Q:=
 .inl ⟨n,_,rfl,.inl (.of hn),rfl,YW.mpr fun x hx=>by (obtain ⟨s,_,rfl⟩:=yQ.mp hx;rfl),by rw [yC (by decide),qeb];exact q⟩
theorem FoA.setB {a:Fo} {wt:List Str} {ks:List (Key×V)} {l:List Str} (h:FoA (cc 9) cw H0 H a ss ns qs (S.setBas l m) ss dn wt lo) (hk:H a.ds=some (.dK ks)) (hz:z∈ss):FoA (cc 9) cw H0 (upd H a.ds (.dK (zD ks (Sum.inr z) (.str m)))) a ss ns qs (S.setBas (l++[z]) m) ss dn wt lo/\ks.length<=ss.length:=by
 obtain ⟨kr,r1,r2,r3⟩:=h.row;obtain ⟨ka,p1,p2,p3⟩:=h.par;obtain ⟨k,b1,b2,b3⟩:=h.bas;obtain ⟨xs,g1,g2⟩:=h.rng;rw [hk] at b1;cases b1;obtain ⟨⟨n1,n2,n3,n4,n5⟩,⟨n6,n7,n8,n9⟩,⟨n10,n11,n12⟩,⟨n13,n14⟩,n15⟩:=(by simpa [Fo.six] using h.sep:(¬a.x=a.dr/\¬a.x=a.da/\¬a.x=a.ds/\¬a.x=a.dg/\¬a.x=a.dw)/\(¬a.dr=a.da/\¬a.dr=a.ds/\¬a.dr=a.dg/\¬a.dr=a.dw)/\(¬a.da=a.ds/\¬a.da=a.dg/\¬a.da=a.dw)/\(¬a.ds=a.dg/\¬a.ds=a.dw)/\¬a.dg=a.dw);have bx:Bx a.six H (upd H a.ds (.dK (zD ks (Sum.inr z) (.str m)))):=fun c o n e=>by rw [qf (fun y=>n (by rw [y];simp [Fo.six]))];exact e
 refine ⟨⟨qaH h.sm (h.fr _ (by simp [Fo.six])),h.web,h.prt,h.fr,h.nd,fun c hc=>⟨(h.exf c hc).1,(h.exf c hc).2.1,(h.exf c hc).2.2.elim fun o e=>⟨o,bx _ _ (h.exf c hc).2.1 e⟩⟩,h.obj.eq (qf n3),⟨kr,by rw [qf n7];exact r1,r2,fun y=>(r3 y).mono bx Fo.sub⟩,⟨ka,by rw [qf n10];exact p1,p2,p3⟩,⟨_,qb,by rw [put_len (b3 z hz)];exact b2,fun u hu=>?_⟩,⟨xs,by rw [qf (Yn n13)];exact g1,g2⟩,by rw [qf (Yn n14)];exact h.wai,h.evn,h.evi,h.evs⟩,b2⟩;rw [qad,b3 u hu];show (if _ then _ else _)=some (V.str (if u∈l++[z] then m else S.bas u));have e0:(S.setBas l m).bas u=if u∈l then m else S.bas u:=rfl;rw [e0];by_cases e:u=z
 ·subst e;rw [yF rfl,yF (by simp)]
 ·rw [yC (fun x=>e (xn x))];by_cases y:u∈l
  ·rw [yF y,yF (yP _ y)]
  ·rw [yC y,yC (fun x=>(yz.mp x).elim y fun x=>e (yy.mp x))]
theorem FoA.updG {a:Fo} {bs wt:List Str} (h:FoA (cc 9) cw H0 H a ss ns qs S bs dn wt lo) (hx:xs.length<=(dn++wt).length):FoA (cc 9) cw H0 (upd H a.dg (.lst xs)) a ss ns qs S bs dn wt lo:=by
 obtain ⟨kr,r1,r2,r3⟩:=h.row;obtain ⟨ka,p1,p2,p3⟩:=h.par;obtain ⟨k,b1,b2,b3⟩:=h.bas;obtain ⟨⟨n1,n2,n3,n4,n5⟩,⟨n6,n7,n8,n9⟩,⟨n10,n11,n12⟩,⟨n13,n14⟩,n15⟩:=(by simpa [Fo.six] using h.sep:(¬a.x=a.dr/\¬a.x=a.da/\¬a.x=a.ds/\¬a.x=a.dg/\¬a.x=a.dw)/\(¬a.dr=a.da/\¬a.dr=a.ds/\¬a.dr=a.dg/\¬a.dr=a.dw)/\(¬a.da=a.ds/\¬a.da=a.dg/\¬a.da=a.dw)/\(¬a.ds=a.dg/\¬a.ds=a.dw)/\¬a.dg=a.dw);have bx:Bx a.six H (upd H a.dg (.lst xs)):=(Bx.of (Sr H)).upd (by simp [Fo.six]);exact ⟨qaH h.sm (h.fr _ (by simp [Fo.six])),h.web,h.prt,h.fr,h.nd,fun c hc=>⟨(h.exf c hc).1,(h.exf c hc).2.1,(h.exf c hc).2.2.elim fun o e=>⟨o,bx _ _ (h.exf c hc).2.1 e⟩⟩,h.obj.eq (qf n4),⟨kr,by rw [qf n8];exact r1,r2,fun y=>(r3 y).mono bx Fo.sub⟩,⟨ka,by rw [qf n11];exact p1,p2,p3⟩,⟨k,by rw [qf n13];exact b1,b2,b3⟩,⟨xs,qb,hx⟩,by rw [qf (Yn n15)];exact h.wai,h.evn,h.evi,h.evs⟩
theorem ok_fdF (F:Fun K "fold" "Forest.fold" jE f fd) (T:Txt K mg cc cw) (kY:MethOk P w K mg base CX0 1 cw "places" ["self"] (spPls cw)):FnOk P w K mg base CX0 2 f fd ["self","ring","meeting"] (spFd cc cw):=by
 refine F.ok KC fun _ _ _ _ H vs Q E hr h=>?_
 ·obtain ⟨H0,a,ss,ns,qs,S,dn,wt,lo,lr,rg,m,xs,rfl,h,h14,hlr,hl6,hrl,hdg,hxl,q⟩:=h;have hu:=jP hr;refine ⟨_,(qc (qaV (sc:=qg jE) (XN:=["self","ring","meeting","within","place"]) ["place","ring","self","meeting"] 1 [1,0,2] rfl rfl rfl (by decide +kernel) rfl (by decide +kernel) (i:=3) KC.nd rfl rfl
  (qQ (K:=K) rfl (qX kY (hmR hr) (qA (K:=K) rfl (pv 0) rfl))) (fun _ _ _ _=>(qq (i:=0) (show (["place","ring","self","meeting"]:List Str).Nodup by decide +kernel) rfl (yE rfl))) qS
  (fun _ _ _ _=>(q9 (qo (zS (K:=K) rfl hu) (qr (qt (K:=K) rfl hu) (qA (K:=K) rfl (pv 2) rfl) (pv 0) (fun _ _=>rfl)) (qx (j3 (K:=K) rfl) (pv 1) (qM (qa (pv 3) qd))) (by with_unfolding_all rfl))))
  (fun _ _ _ _=>(pv 0)))
 (qc (ji yV rfl (qQ (K:=K) rfl (pv 3)) (qq (i:=4) KC.nd rfl (yE rfl))
 (qe (jK (pv 2) (jJ (qA (K:=K) rfl (pv 0) rfl) (pv 4) (jL hu)))))
 (qe (qL (qaW (K:=K) rfl yD y0 Yb qI (qA (K:=K) rfl (pv 0) rfl) (qa (pv 3) qd)))))),?_⟩
  have hfew:=h.few;have hWb:=h.web.same h.sm;obtain ⟨wx,dd,ol,nn,hb,_⟩:=id hWb;ext;refine .inl (h.obj.rd T 0 rfl ?_);refine ⟨a.b,wx,_,rfl,hb,jU (by decide +kernel),?_⟩;ext;refine ⟨a.b,ss,ns,rfl,hWb,fun pl hpl=>?_⟩;have s1:=qF (Sr H) (o:=.lst (ss.map V.str)) hpl;have e1:upd H pl (.lst (ss.map V.str)) pl=some (.lst (ss.map V.str)):=qb;generalize upd H pl (.lst (ss.map V.str))=H1 at s1 e1;refine .inl ⟨⟨_,.of e1⟩,qK (xs:=ss.map V.str) (fun i ys J=>L2.Same H1 J/\ys=((ss.take i).filter fun u=>decide (S.bas u∈rg++[m])).map V.str) ⟨L2.Same.refl H1,rfl⟩ (fun i ys J _ hp=>.of (hp.1 _ _ e1)) (fun i y ys J hy hp=>?_) fun ys J hp=>?_⟩
  ·obtain ⟨sJ,rfl⟩:=hp;rw [yd] at hy;obtain ⟨z,hz,rfl⟩:=yn.mp hy;have s0J:=s1.trans sJ;have hJ:=h.same s0J;obtain ⟨ks,b1,b2,b3⟩:=hJ.bas;have hil:=(yc.mp hz).1
   have estep:(ss.take (i + 1)).filter (fun u=>decide (S.bas u∈rg++[m]))=(ss.take i).filter (fun u=>decide (S.bas u∈rg++[m]))++(if S.bas z∈rg++[m] then [z] else []):=by
    rw [yH,hz,yW];show _++[z].filter _=_;rw [yS];simp only [km,Yv]
   ext;refine .inl (hJ.obj.rd T 4 rfl ?_);ext;refine qeg b1 (b3 z (ye hz)) ?_;ext;refine ⟨by show 1<=sizeLine;decide,fun c1 hc1=>?_⟩;have t1:=qF (Sr J) (o:=.lst [.str m]) hc1;have ec1:upd J c1 (.lst [.str m]) c1=some (.lst [.str m]):=qb;generalize upd J c1 (.lst [.str m])=J1 at t1 ec1;refine qeG ((s0J.trans t1) _ _ hlr) ec1 (by rw [ya];show _ + 1<=_;omega) fun c2 hc2=>?_;have t2:=qF t1 (o:=.lst (rg.map V.str++[.str m])) hc2;have ec2:upd J1 c2 (.lst (rg.map V.str++[.str m])) c2=some (.lst ((rg++[m]).map V.str)):=by rw [qb,yu];rfl
   generalize upd J1 c2 (.lst (rg.map V.str++[.str m]))=J2 at t2 ec2;refine qeh ec2 ⟨_,rfl,?_⟩;rw [estep];by_cases hin:S.bas z∈rg++[m]
   ·rw [yG hin,yF hin];refine zN ?_;ext;have hfl:=yT (fun u=>decide (S.bas u∈rg++[m])) (ss.take i);rw [yL] at hfl;refine ⟨by rw [ya];exact qi (by omega),sJ.trans t2,by rw [yu];rfl⟩
   ·rw [yl hin,yC hin,Yi];refine yq ?_;exact ⟨sJ.trans t2,rfl⟩
  ·obtain ⟨sJ,rfl⟩:=hp;rw [show (ss.map V.str).length=ss.length from ya _,yM];have s0J:=s1.trans sJ;have hwl:(ss.filter fun u=>decide (S.bas u∈rg++[m])).length<=ss.length:=yT _ _;refine ⟨by rw [ya];exact yX (qi (by omega)),fun wn hwn=>?_⟩;have s2:=qF s0J (o:=.lst ((wnL S ss rg m).map V.str)) hwn;have ew:upd J wn (.lst ((wnL S ss rg m).map V.str)) wn=some (.lst ((wnL S ss rg m).map V.str)):=qb;have hwl2:(wnL S ss rg m).length<=ss.length:=hwl;have hwm:∀ u∈wnL S ss rg m,u∈ss:=fun u hu=>(yp.mp hu).1;show qfQ _ _ _ _ (upd J wn (.lst ((wnL S ss rg m).map V.str)));generalize wnL S ss rg m=wl at *;have hwn6:=(h.same s0J).new hwn;generalize upd J wn (.lst (wl.map V.str))=H2 at s2 ew;have h2:=h.same s2;ext;refine .inl ⟨⟨_,.of ew⟩,qV (xs:=wl.map V.str) (fun i σ J=>Bx a.six H2 J/\(∀ o,H2 a.dg=some o->J a.dg=some o)/\FoA (cc 9) cw H0 J a ss ns qs (S.setBas (wl.take i) m) ss dn wt lo/\∃ y4,σ=[some (.ref a.x),some (.ref lr),some (.str m),some (.ref wn),y4]) ⟨fun c o _ e=>e,fun _ e=>e,?_,_,rfl⟩ (fun i σ J _ hp=>.of (hp.1 _ _ hwn6 ew)) (fun i y σ J hy hp=>?_) fun σ J hp=>?_⟩
   ·have:S.setBas ([]:List Str) m=S:=by unfold FS.setBas;simp
    rw [List.take_zero,this];exact h2
   ·obtain ⟨bx,hg,hJ,y4,rfl⟩:=hp;rw [yd] at hy;obtain ⟨z,hz,rfl⟩:=yn.mp hy;obtain ⟨ks,b1,b2,b3⟩:=hJ.bas;have htk:wl.take (i + 1)=wl.take i++[z]:=by rw [yH,hz];rfl
    obtain ⟨h3,hkl⟩:=hJ.setB b1 (hwm z (ye hz));ext;refine .inl (hJ.obj.rd T 4 rfl ?_);ext;refine .inr ⟨a.ds,_,rfl,DPut.k (k:=Sum.inr z) b1 (by rw [YC];omega),?_⟩;have nsg:a.dg≠a.ds:=fun e=>by have:=h.nd;rw [e] at this;simp at this
    exact ⟨fun c o n e=>by rw [qf (fun y=>n (by rw [y];simp [Fo.six]))];exact bx c o n e,fun o e=>by rw [qf nsg];exact hg o e,by rw [htk];exact h3,_,rfl⟩
   ·obtain ⟨bx,hg,hJ,y4,rfl⟩:=hp;rw [ya,yM] at hJ;have edg:=hg _ (s2 _ _ hdg);ext;refine .inl (hJ.obj.rd T 5 rfl ?_);refine ⟨.inl ⟨rfl,_,.of edg⟩,?_⟩;ext;refine ⟨a.dg,_,_,rfl,rfl,edg,qi (by omega),?_⟩;exact q _ (hJ.updG (by rw [yt];simp only [yA,YM];omega)) ((Bx.of s2).trans bx |>.upd (by simp [Fo.six]))
theorem kZ:FnScope ["self","one","other","ones","others","meeting","ring"] ["self","one","other"] (qg qH):=fS
structure Mono (S S':FS):Prop where
 ba:∀ u v,S.bas u=S.bas v->S'.bas u=S'.bas v
 pa:∀ u,S.par u≠none->S'.par u≠none
 ro:∀ u r,S.rows u=some r->S'.rows u=some r
theorem Mono.refl (S:FS):Mono S S:=⟨fun _ _ e=>e,fun _ e=>e,fun _ _ e=>e⟩
theorem Mono.trans {S'':FS} (a:Mono S S') (b:Mono S' S''):Mono S S'':=⟨fun u v e=>b.ba u v (a.ba u v e),fun u e=>b.pa u (a.pa u e),fun u r e=>b.ro u r (a.ro u r e)⟩
structure Wb (A:Str->Str->Prop) (ss:List Str) (qs:List (Str×Str)):Prop where
 gr:Gr A (pt qs)
 inn:∀ a b,A a b->a∈ss
 qn:(qu qs).Nodup
 few:ss.length<=14
 nd:ss.Nodup
theorem Alt.inn (W:Wb A ss qs) {r:List Str} (h:Alt A (pt qs) r v) (hv:v∈ss):r.length<=14/\∀ u∈r,u∈ss:=by
 have hin:∀ u∈r,u∈ss:=fun u hu=>by
  obtain ⟨j,hj⟩:=yf hu;obtain ⟨r0,e⟩:=h.tl;by_cases hl:j + 1 < r.length
  ·obtain ⟨b,hb⟩:∃ b,r[j + 1]?=some b:=⟨_,yb hl⟩;exact W.inn _ _ (h.st j u b hj hb).1
  ·have hj2:=(yc.mp hj).1;have:j=r0.length:=by rw [e,yt] at hj2 hl;simp at hj2 hl;omega
   rw [e,this,yI (yh _),kI] at hj;rw [<- ym hj];exact hv
 exact ⟨yi (zz h.nd hin) W.few,hin⟩
theorem qdE (l':List Str):∀ {l:List Str},(∃ d∈l,d∈l')->∃ l1 m l2,l=l1++m::l2/\m∈l'/\(∀ d∈l1,d∉l')/\∃ t,l.filter (fun d=>decide (d∈l'))=m::t
 | [],⟨_,h,_⟩=>by cases h
 | x::r,h=>by
  by_cases hx:x∈l'
  ·exact ⟨[],x,r,rfl,hx,(fun _ h=>by cases h),_,by rw [yS,yF (yG hx)]⟩
  ·obtain ⟨d,hd,hd'⟩:=h;obtain ⟨l1,m,l2,e1,e2,e3,t,e4⟩:=qdE l' (l:=r) ⟨d,(yB.mp hd).resolve_left (fun z=>hx (by rw [<- z];exact hd')),hd'⟩;refine ⟨x::l1,m,l2,by rw [e1];rfl,e2,fun y hy=>?_,t,by rw [yS,yC (by simpa using hx)];exact e4⟩;rcases yB.mp hy with rfl | hy
   ·exact hx
   ·exact e3 y hy
inductive spBt (cc:Nat->Addr) (cw:Addr) (vs:List V) (H:Hp) (Q:VK) (E:XK):Prop|mk (H0:Hp) (a:Fo) (ss:List Str) (ns:List Nat) (qs:List (Str×Str)) (S:FS) (dn wt:List Str) (v w:Str) (rv rw:List Str) (A:Str->Str->Prop) (_:vs=[.ref a.x,.str v,.str w]) (_:FoA (cc 9) cw H0 H a ss ns qs S ss dn wt .non) (_:Wb A ss qs) (_:FI A (pt qs) S) (_:S.rows v=some rv) (_:S.rows w=some rw) (_:A v w) (_:(∀ (H':Hp) (S':FS) (more:List Str),FoA (cc 9) cw H0 H' a ss ns qs S' ss dn (wt++more) .non->Bx a.six H H'->FI A (pt qs) S'->S'.bas v=S'.bas w->Mono S S'->Q .non H')) (_:∀ (H':Hp) (t:Addr) (r:List Str),FoA (cc 9) cw H0 H' a ss ns qs S ss dn wt (.ref t)->Bx a.six H H'->H' t=some (.lst (r.map V.str))->t∉a.all->Aug A (pt qs) r->r.length<=28->Q .non H')
theorem qeR {d:Str} {Q:VK} (q:Q (.bl (!decide (c=d))) H):qe7 K true (.str c) (.str d) H Q:=by
 refine .inl ⟨rfl,rfl,?_⟩;rw [yF rfl]
 have e:eqV (.str c) (.str d)=decide (c=d):=by
  by_cases h:c=d
  ·subst h;simp [eqV]
  ·simp [eqV,h]
 rw [e];exact q
theorem FoA.setL {a:Fo} {bs wt:List Str} {fs:List (Str×V)} {v:V} (h:FoA (cc 9) cw H0 H a ss ns qs S bs dn wt .non) (hx:H a.x=some (.ins (cc 9) dx fs)) (hv:v≠.non):fs.length < 1000/\FoA (cc 9) cw H0 (upd H a.x (.ins (cc 9) dx (qG "longer" v fs))) a ss ns qs S bs dn wt v:=by
 obtain ⟨dx',fs',x1,x2,x3,x4,x5⟩:=h.obj;rw [hx] at x1;cases x1;have hl:=x3 rfl;obtain ⟨kr,r1,r2,r3⟩:=h.row;obtain ⟨ka,p1,p2,p3⟩:=h.par;obtain ⟨k,b1,b2,b3⟩:=h.bas;obtain ⟨xs,g1,g2⟩:=h.rng;have hs:=h.sep;have nx:∀ {c:Addr},c∈[a.dr,a.da,a.ds,a.dg,a.dw]->c≠a.x:=fun hc e=>(yo.mp hs).1 (by rw [<- e];exact hc);have bx:Bx a.six H (upd H a.x (.ins (cc 9) dx (qG "longer" v fs))):=(Bx.of (Sr H)).upd (by simp [Fo.six]);refine ⟨by omega,qaH h.sm (h.fr _ (by simp [Fo.six])),h.web,h.prt,h.fr,h.nd,fun c hc=>⟨(h.exf c hc).1,(h.exf c hc).2.1,(h.exf c hc).2.2.elim fun o e=>⟨o,bx _ _ (h.exf c hc).2.1 e⟩⟩,⟨dx,_,qb,yi (jy _ _ _) (by omega),fun e=>absurd e hv,fun f u hf=>?_,fun f hf=>?_⟩,⟨kr,by rw [qf (nx (by simp))];exact r1,r2,fun y=>(r3 y).mono bx Fo.sub⟩,⟨ka,by rw [qf (nx (by simp))];exact p1,p2,p3⟩,⟨k,by rw [qf (nx (by simp))];exact b1,b2,b3⟩,⟨xs,by rw [qf (nx (by simp))];exact g1,g2⟩,by rw [qf (nx (by simp))];exact h.wai,h.evn,h.evi,h.evs⟩
 ·rw [qC];by_cases e:f="longer"
  ·rw [yF e];subst e;have:(Str.ofString "longer",u)∈a.tab v:=hf;simp only [Fo.tab,yB,Xr,yY,YB] at this;rcases this with ⟨z,_⟩ | ⟨z,_⟩ | ⟨z,_⟩ | ⟨z,_⟩ | ⟨z,_⟩ | ⟨z,_⟩ | ⟨z,_⟩ | ⟨_,z⟩<;>first | exact absurd z (by decide +kernel) | exact congrArg some z.symm
  ·rw [yC e];refine x4 f u ?_;have:(f,u)∈a.tab v:=hf;simp only [Fo.tab,yB,Xr,yY,YB] at this ⊢;rcases this with z | z | z | z | z | z | z | ⟨z,_⟩
   all_goals first | exact absurd z e | simp [z]
 ·rw [qC,yC (fun e=>hf (by rw [e];decide +kernel))];exact x5 f hf
theorem FoA.rowAt {a:Fo} {bs wt:List Str} (h:FoA (cc 9) cw H0 H a ss ns qs S bs dn wt lo) {r:List Str} (e:S.rows u=some r) {Q:VK} (q:∀ t,H t=some (.lst (r.map V.str))->Q (.ref t) H):qfN K (.ref a.dr) (.str u) H Q:=by
 obtain ⟨kr,r1,_,r3⟩:=h.row;have:=r3 u;rw [e] at this;obtain ⟨t,k1,k2,_⟩:=this;exact qeg r1 k1 (q t k2)
theorem ok_bt (F:Fun K "bring_together" "Forest.bring_together" qH f fd) (T:Txt K mg cc cw) (Kq:MethOk P w K mg base CX0 1 (cc 9) "bases_down_from" ["self","place"] (spBd cc cw)) (Kw:MethOk P w K mg base CX0 2 (cc 9) "reach_round" ["self","one","other","bases"] (spRr cc cw)) (uA:MethOk P w K mg base CX0 2 (cc 9) "fold" ["self","ring","meeting"] (spFd cc cw)):FnOk P w K mg base CX0 3 f fd ["self","one","other"] (spBt cc cw):=by
 refine F.ok kZ fun _ _ _ _ H vs Q E hr h=>?_
 ·obtain ⟨H0,a,ss,ns,qs,S,dn,wt,v,w,rv,rw',B,rfl,h,hWb,I,hv,hw,hvw,q1,q2⟩:=h;have hu:=jP hr;have evS:∀ {v:Str} {r:List Str},S.rows v=some r->v∈ss:=fun e=>h.evs _ ((h.evi _).mpr (by rw [e];exact fun z=>by cases z));obtain ⟨l,hl⟩:=I.chainOf hv;obtain ⟨l',hl'⟩:=I.chainOf hw;have hln:=hl.nd I hv rfl;have hln':=hl'.nd I hw rfl;have hl14:l.length<=14:=yi (zz hln fun c hc=>(hl.bs0 I hv hc).elim fun r z=>evS z.1) hWb.few;have hl14':l'.length<=14:=yi (zz hln' fun c hc=>(hl'.bs0 I hw hc).elim fun r z=>evS z.1) hWb.few;obtain ⟨rl14,rvs⟩:=(I.alt v rv hv).inn hWb (evS hv);obtain ⟨rl14',rws⟩:=(I.alt w rw' hw).inn hWb (evS hw);obtain ⟨lx,c,elc⟩:∃ lx c,l=lx++[c]:=by obtain ⟨t,e⟩:=hl.ne;exact ⟨_,_,(xj (by rw [e];exact kD _ _)).symm⟩
  obtain ⟨ly,d,eld⟩:∃ ly d,l'=ly++[d]:=by obtain ⟨t,e⟩:=hl'.ne;exact ⟨_,_,(xj (by rw [e];exact kD _ _)).symm⟩
  refine ⟨_,(qc (qj (i:=3) kZ.nd rfl (yE rfl) (qE Kq (hmR hr) (pv 0) (qa (pv 1) qd)))
 (qc (qj (i:=4) kZ.nd rfl (Xw rfl) (qE Kq (hmR hr) (pv 0) (qa (pv 2) qd)))
 (qe (qT (qo (qa4 (K:=K) rfl hu) (qr (qt (K:=K) rfl hu) (pv 3) (qbk qay qh) (fun _ _=>rfl)) (qr (qt (K:=K) rfl hu) (pv 4) (qbk qay qh) (fun _ _=>rfl)) (qB _)) (qe (jY (K:=K) rfl (pv 0) (qx (j3 (K:=K) rfl) (qr (qt (K:=K) rfl hu) (qA (K:=K) rfl (pv 0) rfl) (pv 1) (fun _ _=>rfl)) (qeP (K:=K) rfl (qr (qt (K:=K) rfl hu) (qA (K:=K) rfl (pv 0) rfl) (pv 2) (fun _ _=>rfl)) (jk (qbk qay qh)))) rfl)) (qe (qT (qo (qa4 (K:=K) rfl hu) (qr (qt (K:=K) rfl hu) (pv 3) qh (fun _ _=>rfl)) (qr (qt (K:=K) rfl hu) (pv 4) qh (fun _ _=>rfl)) (qB _)) (qc (qj (i:=5) kZ.nd rfl (yE rfl) (qr (qt (K:=K) rfl hu) (jg (sc:=qg qH) (XN:=["self","one","other","ones","others","meeting","ring"]) ["base","others"] 1 [4] rfl rfl rfl (by decide +kernel) rfl (by decide +kernel)
  (qQ (K:=K) rfl (pv 3)) (fun _ _ _ _=>(qq (i:=0) (show (["base","others"]:List Str).Nodup by decide +kernel) rfl (yE rfl))) qS
  (fun _ _ _ _=>(q9 (qo (zS (K:=K) rfl hu) (pv 0) (pv 1) (by with_unfolding_all rfl))))
  (fun _ _ _ _=>(pv 0))) qh (fun _ _=>rfl)))
 (qc (qj (i:=6) kZ.nd rfl (yE rfl) (qE Kw (hmR hr) (pv 0) (qa (pv 1) (qa (pv 2) (qa (jf (qc2 (K:=K) rfl) (pv 3) jz (jk (qaW (K:=K) rfl yD Y6 xS (qb5 (K:=K) rfl) (pv 3) (qa (pv 5) qd)))) qd)))))
 (qc (qL (qaW (K:=K) rfl yD xE xF qag (pv 6) (qa (qE Kw (hmR hr) (pv 0) (qa (pv 2) (qa (pv 1) (qa (jf (qc2 (K:=K) rfl) (pv 4) jz (jk (qaW (K:=K) rfl yD Y6 xS (qb5 (K:=K) rfl) (pv 4) (qa (pv 5) qd)))) qd)))) qd)))
 (qe (qL (qE uA (hmR hr) (pv 0) (qa (pv 6) (qa (pv 5) qd)))))))) qv)))))),?_⟩
  ext;obtain ⟨dx,fs,hx1,_,_,_,hx2⟩:=id h.obj;refine ⟨a.x,dx,fs,rfl,hx1,hx2 _ (by decide +kernel),?_⟩;ext;refine ⟨H0,a,ss,ns,qs,S,dn,wt,.non,v,rv,l,B,rfl,h,hWb.few,I,hv,hl,hl14,fun o1 H1 s1 ho1 eo1=>?_⟩;ext;refine ⟨a.x,dx,fs,rfl,s1 _ _ hx1,hx2 _ (by decide +kernel),?_⟩;ext;refine ⟨H0,a,ss,ns,qs,S,dn,wt,.non,w,rw',l',B,rfl,h.same s1,hWb.few,I,hw,hl',hl14',fun o2 H2 s2 ho2 eo2=>?_⟩;have s02:=s1.trans s2;have h2:=h.same s02;have eo12:=s2 _ _ eo1;have no1:=h.newA ho1;have no2:=(h.same s1).newA ho2;ext;refine ⟨1,rfl,?_⟩;refine .inl (qae eo12 (v:=.str c) (by rw [elc];exact atI_last) ?_);ext;refine ⟨1,rfl,?_⟩;refine .inl (qae eo2 (v:=.str d) (by rw [eld];exact atI_last) ?_);refine qeR ⟨_,rfl,?_⟩;by_cases hcd:c=d
  ·rw [yG hcd];refine yq ?_;obtain ⟨t0,et0⟩:=hl.ne;obtain ⟨t0',et0'⟩:=hl'.ne;ext;refine .inl (qae eo12 (v:=.str (S.bas v)) (qy (j:=0) (by rw [et0];rfl)) ?_);ext;refine .inl (qae eo2 (v:=.str (S.bas w)) (qy (j:=0) (by rw [et0'];rfl)) ?_);refine qeR ⟨_,rfl,?_⟩;by_cases hbb:S.bas v=S.bas w
   ·rw [yG hbb];refine yq ?_;exact q1 H2 S [] (by rw [Yi];exact h2) (Bx.of s02) I hbb (Mono.refl S)
   ·rw [yl hbb];refine zN ?_;obtain ⟨l1,m,l2,el,hml',hd1,tf,etf⟩:=qdE l' (l:=l) ⟨c,by rw [elc];simp,by rw [eld,hcd];simp⟩;obtain ⟨m1,m2,em⟩:=Ym hml';obtain ⟨e22,hd2⟩:=hl.meet I hv hw hl' el em hd1;rw [e22] at em;have hm1n:m∉m1:=fun z=>by rw [em] at hln';exact (Yg.mp hln').2.2 m z m (by simp) rfl
    have hl1n:m∉l1:=fun z=>hd1 m z hml';ext;refine .inl ⟨⟨_,.of eo12⟩,qK (xs:=l.map V.str) (fun i ys J=>J=H2/\ys=((l.take i).filter fun d=>decide (d∈l')).map V.str) ⟨rfl,rfl⟩ (fun i ys J _ hp=>by rw [hp.1];exact .of eo12) (fun i y ys J hy hp=>?_) fun ys J hp=>?_⟩
    ·obtain ⟨rfl,rfl⟩:=hp;rw [yd] at hy;obtain ⟨z,hz,rfl⟩:=yn.mp hy
     have estep:(l.take (i + 1)).filter (fun d=>decide (d∈l'))=(l.take i).filter (fun d=>decide (d∈l'))++(if z∈l' then [z] else []):=by
      rw [yH,hz,yW];show _++[z].filter _=_;rw [yS];simp only [km,Yv]
     have hil:=(yc.mp hz).1;have hfl:=yT (fun d=>decide (d∈l')) (l.take i);rw [yL] at hfl;ext;refine qeh eo2 ⟨_,rfl,?_⟩;rw [estep];by_cases hin:z∈l'
     ·rw [yG hin,yF hin];refine zN ?_;ext;exact ⟨by rw [ya];exact qi (by omega),rfl,by rw [yu];rfl⟩
     ·rw [yl hin,yC hin,Yi];refine yq ?_;exact ⟨rfl,rfl⟩
    ·obtain ⟨rfl,rfl⟩:=hp;rw [show (l.map V.str).length=l.length from ya _,yM,etf];have htf:=yT (fun d=>decide (d∈l')) l;rw [etf] at htf;refine ⟨by rw [ya];exact yX (qi (by omega)),fun cl hcl=>?_⟩;have s3:=qF s02 (o:=.lst ((m::tf).map V.str)) hcl;have s23:=qF (Sr J) (o:=.lst ((m::tf).map V.str)) hcl;have ecl:upd J cl (.lst ((m::tf).map V.str)) cl=some (.lst ((m::tf).map V.str)):=qb;generalize upd J cl (.lst ((m::tf).map V.str))=H3 at s3 s23 ecl;ext;refine .inl (qae ecl (v:=.str m) (qy (j:=0) rfl) ?_);have h3:=h.same s3;have eo13:=s23 _ _ eo12;have eo23:=s23 _ _ eo2;ext;refine ⟨a.x,dx,fs,rfl,s3 _ _ hx1,hx2 _ (by decide +kernel),?_⟩;ext;refine ⟨.inl ⟨rfl,_,.of eo13⟩,?_⟩;ext;refine ⟨o1,l,m,rfl,rfl,.of eo13,by rw [el];simp,_,rfl,?_⟩;rw [show l.idxOf m=l1.length by rw [el] at hln ⊢;exact qdb hln];ext;refine .inl ⟨o1,_,rfl,.of eo13,fun c1 hc1=>?_⟩;have ecut:qb0 (l.map V.str) none (some ((l1.length:Nat):Int))=l1.map V.str:=by rw [zT,el,yu,List.take_left' (by simp)]
     rw [ecut];have s4:=qF s3 (o:=.lst (l1.map V.str)) hc1;have s34:=qF (Sr H3) (o:=.lst (l1.map V.str)) hc1;have ec1:upd H3 c1 (.lst (l1.map V.str)) c1=some (.lst (l1.map V.str)):=qb;have n1:=h3.new hc1;generalize upd H3 c1 (.lst (l1.map V.str))=H4 at s4 s34 ec1;have h4:=h.same s4
     have side:∀ {x y:Str} {rx k k1:List Str},S.rows x=some rx->(∀ u∈rx,u∈ss)->Ch (pt qs) S (S.bas x) k->k=k1++m::l2->∀ c∈k1,∃ q rz t,pt qs c=some q/\S.rows q=none/\q∈ss/\rx=rz++q::t:=fun {x y rx k k1} hx hs hk ek c hc=>by
      obtain ⟨a',b',ea⟩:=Ym hc;have ek2:k=a'++c::(b'++m::l2):=by rw [ek,ea];simp
      obtain ⟨_,_,_,_,g3,_⟩:=hk.up I hx rfl ek2;rcases g3.cases' with ⟨_,z⟩ | ⟨q,_,hq,_⟩
      ·simp at z
      ·obtain ⟨rz,t,k1,_,k3,_⟩:=hk.suf I hx ek2 hq;exact ⟨q,rz,_,hq,k3,hs q (by rw [k1];simp),k1⟩
     ext;refine ⟨H0,a,ss,ns,qs,S,dn,wt,.non,v,w,c1,l1,rv,rw',rfl,h4,hWb.few,ec1,n1,hv,hw,rl14,rl14',(I.alt v rv hv).nd,?_,?_,hWb.qn,side (y:=v) hv rvs hl el,fun t1 sd1 mo1 H5 S1 h5 bx5 ht1 et1 hsd1 hsl1 hml1 R1 hg1=>?_⟩
     ·rw [el] at hln;exact (Yg.mp hln).1
     ·rw [el,yt] at hl14;omega
     have no16:o1∉a.six:=fun z=>no1 (Fo.sub _ z);have no26:o2∉a.six:=fun z=>no2 (Fo.sub _ z);have eo25:=bx5 _ _ no26 (s34 _ _ eo23);ext;refine ⟨.inl ⟨rfl,_,.of et1⟩,?_⟩;ext;obtain ⟨dx5,fs5,hx15,_,_,_,hx25⟩:=id h5.obj;refine ⟨a.x,dx5,fs5,rfl,hx15,hx25 _ (by decide +kernel),?_⟩;ext;refine ⟨.inl ⟨rfl,_,.of eo25⟩,?_⟩;ext;refine ⟨o2,l',m,rfl,rfl,.of eo25,hml',_,rfl,?_⟩;rw [show l'.idxOf m=m1.length by rw [em] at hln' ⊢;exact qdb hln'];ext;refine .inl ⟨o2,_,rfl,.of eo25,fun c2 hc2=>?_⟩;have ecut2:qb0 (l'.map V.str) none (some ((m1.length:Nat):Int))=m1.map V.str:=by rw [zT,em,yu,List.take_left' (by simp)]
     rw [ecut2];have s6:=qF (Sr H5) (o:=.lst (m1.map V.str)) hc2;have ec2:upd H5 c2 (.lst (m1.map V.str)) c2=some (.lst (m1.map V.str)):=qb;have n2:=h5.new hc2;generalize upd H5 c2 (.lst (m1.map V.str))=H6 at s6 ec2;have h6:=h5.same s6
     have no1':∀ c∈m1,∀ q,pt qs c=some q->S.rows q=none->S1.rows q=none:=fun c hc q hq hn=>by
      cases e:S1.rows q with
      | none=>rfl
      | some r =>
       exfalso;rcases R1.new q r e with z | ⟨c',hc',z,_⟩
       ·rw [hn] at z;cases z
       ·have e1:=hWb.gr.fs z;rw [hWb.gr.fs hq] at e1;rw [<- ym e1] at hc';exact hd1 c hc' (by rw [em];exact yP _ hc)
     ext;refine ⟨H0,a.add t1,ss,ns,qs,S1,dn,wt++mo1,.non,w,v,c2,m1,rw',rv,rfl,h6,hWb.few,ec2,n2,R1.old _ _ hw,R1.old _ _ hv,rl14',rl14,(I.alt w rw' hw).nd,?_,?_,hWb.qn,fun c hc=>?_,fun t2 sd2 mo2 H7 S2 h7 bx7 ht2 et2 hsd2 hsl2 hml2 R2 hg2=>?_⟩
     ·rw [em] at hln';exact (Yg.mp hln').1
     ·rw [em,yt] at hl14';omega
     ·obtain ⟨q,rz,t,k1,k2,k3,k4⟩:=side (y:=v) hw rws hl' em c hc;exact ⟨q,rz,t,k1,no1' c hc q k1 k2,k3,k4⟩
     have t16:t1∉a.six:=h4.new ht1;have et17:H7 t1=some (.lst (sd1.map V.str)):=bx7 _ _ t16 (s6 _ _ et1);ext;refine ⟨t1,t2,_,_,rfl,rfl,et17,et2,by rw [ya,ya,YC];rw [el,yt] at hl14;rw [em,yt] at hl14';omega,?_⟩;have h8:=h7.updE (c:=t1) (o:=.lst (sd1.map V.str++sd2.map V.str)) (by simp [Fo.add]);obtain ⟨xs,hdg,hxl⟩:=h.rng;have hdg7:=hg2 _ (s6 _ _ (hg1 _ (s4 _ _ hdg)));have ndg:a.dg≠t1:=fun z=>t16 (by rw [<- z];simp [Fo.six]);have et8:upd H7 t1 (.lst (sd1.map V.str++sd2.map V.str)) t1=some (.lst ((sd1++sd2).map V.str)):=by rw [qb,yu]
     have hdg8:upd H7 t1 (.lst (sd1.map V.str++sd2.map V.str)) a.dg=some (.lst xs):=by rw [qf ndg];exact hdg7
     have bx8:Bx a.six H (upd H7 t1 (.lst (sd1.map V.str++sd2.map V.str))):=fun e o n k=>by
      have ne:e≠t1:=fun z=>by rw [z,s4.free ht1] at k;cases k
      rw [qf ne];exact bx7 _ _ n (s6 _ _ (bx5 _ _ n (s4 _ _ k)))
     generalize upd H7 t1 (.lst (sd1.map V.str++sd2.map V.str))=H8 at h8 et8 hdg8 bx8
     have hpos:0 < mo1.length + mo2.length:=by
      rw [hml1,hml2];rcases l1 with _ | ⟨x,r⟩
      ·rcases m1 with _ | ⟨x,r⟩
       ·rw [el] at et0;rw [em] at et0';exact absurd ((xo et0).1.symm.trans (xo et0').1) hbb
       ·simp
      ·simp;omega
     ext;obtain ⟨dx8,fs8,hx18,_,_,_,hx28⟩:=id h8.obj;refine ⟨a.x,dx8,fs8,rfl,hx18,hx28 _ (by decide +kernel),?_⟩;ext;refine ⟨H0,(a.add t1).add t2,ss,ns,qs,S2,dn,wt++mo1++mo2,.non,t1,sd1++sd2,m,xs,rfl,h8,hWb.few,et8,t16,?_,hdg8,?_,fun H9 h9 bx9=>?_⟩
     ·rw [yt,hsl1,hsl2];rw [el,yt] at hl14;rw [em,yt] at hl14';omega
     ·rw [<- Yj,<- Yj,yt,yt (as:=dn++wt)];omega
     have hrg:∀ u,u∈sd1++sd2++[m]↔InR (pt qs) m (l1++m1) u:=fun u=>by
      rw [yz,yz,hsd1,hsd2,yy];unfold InR;constructor
      ·rintro ((⟨c,hc,z⟩ | ⟨c,hc,z⟩) | z)
       ·exact .inr ⟨c,yP _ hc,z⟩
       ·exact .inr ⟨c,yO _ hc,z⟩
       ·exact .inl z
      ·rintro (z | ⟨c,hc,z⟩)
       ·exact .inr z
       ·rcases yz.mp hc with y | y
        ·exact .inl (.inl ⟨c,y,z⟩)
        ·exact .inl (.inr ⟨c,y,z⟩)
     have hb2:S2.bas=S.bas:=by rw [R2.bas,R1.bas]
     have hinS:∀ u,InR (pt qs) m (l1++m1) (S.bas u)->u∈ss:=fun u hu=>by
      cases e:S.rows u with
      | some r=>exact evS e
      | none =>
       rw [I.own e] at hu;rcases hu with z | ⟨c,hc,z⟩
       ·obtain ⟨r,k,_⟩:=hl.bs0 I hv (c:=m) (by rw [el];simp);rw [z];exact evS k
       ·have hcs:∃ r,S.rows c=some r:=by
         rcases yz.mp hc with y | y
         ·exact (hl.bs0 I hv (by rw [el];exact yP _ y)).elim fun r k=>⟨r,k.1⟩
         ·exact (hl'.bs0 I hw (by rw [em];exact yP _ y)).elim fun r k=>⟨r,k.1⟩
        obtain ⟨r,k⟩:=hcs;rcases z with z | z
        ·rw [z];exact evS k
        ·exact hWb.inn _ _ (hWb.gr.as (hWb.gr.fa z))
     have hM:Mg (pt qs) S (S2.setBas (wnL S2 ss (sd1++sd2) m) m) v w m l1 m1:=by
      have hwn:∀ u,u∈wnL S2 ss (sd1++sd2) m↔u∈ss/\InR (pt qs) m (l1++m1) (S.bas u):=fun u=>by
       unfold wnL;rw [yp,yR,hrg,hb2]
      have nr:∀ {u:Str} {r:List Str},NewRow S1 w v u r->NewRow S w v u r:=fun ⟨a1,a2,a3,a4,k1,k2,k3⟩=>by
       rw [R1.old _ _ hw] at k1;rw [R1.old _ _ hv] at k2;cases k1;cases k2;exact ⟨_,_,a3,a4,hw,hv,k3⟩
      refine ⟨by show S2.par=S.par;rw [R2.par,R1.par],fun u r e=>R2.old _ _ (R1.old _ _ e),fun u r e=>?_,fun c hc q hq=>?_,fun u hu=>?_,fun u hu=>?_⟩
      ·rcases R2.new u r e with z | ⟨c,hc,k1,k2⟩
       ·rcases R1.new u r z with z | z
        ·exact .inl z
        ·exact .inr (.inl z)
       ·exact .inr (.inr ⟨c,hc,k1,nr k2⟩)
      ·rcases yz.mp hc with y | y
       ·obtain ⟨r,k⟩:=R1.all c y q hq;exact ⟨r,R2.old _ _ k⟩
       ·exact R2.all c y q hq
      ·show (if u∈wnL S2 ss (sd1++sd2) m then m else S2.bas u)=m;rw [yF ((hwn u).mpr ⟨hinS u hu,hu⟩)]
      ·show (if u∈wnL S2 ss (sd1++sd2) m then m else S2.bas u)=S.bas u;rw [yC (fun z=>hu ((hwn u).mp z).2),hb2]
     have hI:=I.merge hWb.gr hv hw (el ▸ hl) (em ▸ hl') (em ▸ hd1) (el ▸ hd2) hvw hbb hM
     have hbv:InR (pt qs) m (l1++m1) (S.bas v):=by
      rcases l1 with _ | ⟨x,r⟩
      ·rw [el] at et0;cases et0;exact .inl rfl
      ·rw [el] at et0;cases et0;exact .inr ⟨_,by simp,.inl rfl⟩
     have hbw:InR (pt qs) m (l1++m1) (S.bas w):=by
      rcases m1 with _ | ⟨x,r⟩
      ·rw [em] at et0';cases et0';exact .inl rfl
      ·rw [em] at et0';cases et0';exact .inr ⟨_,by simp,.inl rfl⟩
     refine q1 H9 _ (mo1++mo2) ?_ (bx8.trans bx9) hI ((hM.inn v hbv).trans (hM.inn w hbw).symm) ⟨fun u z e=>?_,fun u e=>by rw [hM.par];exact e,hM.old⟩
     ·rw [<- Yj];exact h9.drop (l:=a.ex) fun c hc=>by simp [Fo.add,hc]
     ·by_cases hin:InR (pt qs) m (l1++m1) (S.bas u)
      ·rw [hM.inn u hin,hM.inn z (by rw [<- e];exact hin)]
      ·rw [hM.out u hin,hM.out z (by rw [<- e];exact hin),e]
  ·rw [yl hcd];refine zN ?_;ext;refine .inl (h2.obj.rd T 2 rfl ?_);ext;refine h2.rowAt hv fun tv etv=>?_;ext;refine qgl ?_;ext;refine .inl (h2.obj.rd T 2 rfl ?_);ext;refine h2.rowAt hw fun tw etw=>?_;ext;refine ⟨1,rfl,?_⟩;refine ⟨_,rfl,rfl,tw,_,rfl,.of etw,fun c1 hc1=>?_⟩;have t1:=qF s02 (o:=.lst (rw'.map V.str).reverse) hc1;have t21:=qF (Sr H2) (o:=.lst (rw'.map V.str).reverse) hc1;have ec1:upd H2 c1 (.lst (rw'.map V.str).reverse) c1=some (.lst (rw'.reverse.map V.str)):=by rw [qb,kE]
   generalize upd H2 c1 (.lst (rw'.map V.str).reverse)=H3 at t1 t21 ec1;refine qeG (t21 _ _ etv) ec1 (by rw [ya,ya,Yt];omega) fun c2 hc2=>?_;have n2:=(h.same t1).newA hc2;have t2:=qF t1 (o:=.lst (rv.map V.str++rw'.reverse.map V.str)) hc2;have ec2:upd H3 c2 (.lst (rv.map V.str++rw'.reverse.map V.str)) c2=some (.lst ((rv++rw'.reverse).map V.str)):=by rw [qb,yu]
   generalize upd H3 c2 (.lst (rv.map V.str++rw'.reverse.map V.str))=H4 at t2 ec2;obtain ⟨k1,k2⟩:=(h.same t2).setL (v:=.ref c2) (t2 _ _ hx1) (fun e=>by cases e);ext;refine .inl ⟨a.x,cc 9,dx,fs,rfl,t2 _ _ hx1,T.fcl,T.fa _ (by decide +kernel),k1,?_⟩;have n2x:c2≠a.x:=fun z=>n2 (Fo.sub _ (by rw [z];simp [Fo.six]));exact q2 _ c2 _ k2 ((Bx.of t2).upd (by simp [Fo.six])) (by rw [qf n2x];exact ec2) n2 (I.aug hWb.gr hv hw hl hl' (by rw [elc,eld];simpa using hcd) hvw) (by rw [yt,Yt];omega)
theorem Kk:FnScope ["self","place","other","partner"] ["self","place"] (qg jd):=fS
noncomputable def FS.setPar (S:FS) (u p:Str):FS:=⟨S.rows,fun s=>if s=u then some p else S.par s,S.bas⟩
inductive spLa (cc:Nat->Addr) (cw:Addr) (vs:List V) (H:Hp) (Q:VK) (E:XK):Prop|mk (H0:Hp) (a:Fo) (ss:List Str) (ns:List Nat) (qs:List (Str×Str)) (S:FS) (dn wt:List Str) (v:Str) (A:Str->Str->Prop) (_:vs=[.ref a.x,.str v]) (_:FoA (cc 9) cw H0 H a ss ns qs S ss (dn++[v]) wt .non) (_:Wb A ss qs) (_:(∀ s∈ss,zG s=true)) (_:(∀ (j:Nat) z u,ss[j]?=some z->(u∈inB ss 0 (ns.getD j 0)↔A z u))) (_:(∀ z∈ss,pt qs z=none->S.rows z≠none)) (_:FI A (pt qs) S) (_:CI A S (fun u=>u∈dn)) (_:(∀ (H':Hp) (S':FS) (more:List Str),FoA (cc 9) cw H0 H' a ss ns qs S' ss (dn++[v]) (wt++more) .non->Bx a.six H H'->FI A (pt qs) S'->CI A S' (fun u=>u∈dn++[v])->Mono S S'->Q .non H')) (_:∀ (H':Hp) (S':FS) (more:List Str) (t:Addr) (r:List Str),FoA (cc 9) cw H0 H' a ss ns qs S' ss (dn++[v]) (wt++more) (.ref t)->Bx a.six H H'->H' t=some (.lst (r.map V.str))->t∉a.all->Aug A (pt qs) r->r.length<=28->Q .non H')
theorem CI.on (h:CI A S Pd) (m:Mono S S'):CI A S' Pd:=h.mono m.ba m.pa fun u hu=>by
 cases e:S.rows u with
 | none=>exact absurd e hu
 | some r=>rw [m.ro u r e];exact fun z=>by cases z
theorem FoA.setP {a:Fo} {bs wt:List Str} {ka:List (Key×V)} {p:Str} (h:FoA (cc 9) cw H0 H a ss ns qs S bs dn wt lo) (hk:H a.da=some (.dK ka)) (hus:u∈ss) (hun:S.par u=none):FoA (cc 9) cw H0 (upd H a.da (.dK (zD ka (Sum.inr u) (.str p)))) a ss ns qs (S.setPar u p) bs dn wt lo/\ka.length<=ss.length:=by
 obtain ⟨kr,r1,r2,r3⟩:=h.row;obtain ⟨k',p1,p2,p3⟩:=h.par;obtain ⟨k,b1,b2,b3⟩:=h.bas;obtain ⟨xs,g1,g2⟩:=h.rng;rw [hk] at p1;cases p1;obtain ⟨⟨n1,n2,n3,n4,n5⟩,⟨n6,n7,n8,n9⟩,⟨n10,n11,n12⟩,⟨n13,n14⟩,n15⟩:=(by simpa [Fo.six] using h.sep:(¬a.x=a.dr/\¬a.x=a.da/\¬a.x=a.ds/\¬a.x=a.dg/\¬a.x=a.dw)/\(¬a.dr=a.da/\¬a.dr=a.ds/\¬a.dr=a.dg/\¬a.dr=a.dw)/\(¬a.da=a.ds/\¬a.da=a.dg/\¬a.da=a.dw)/\(¬a.ds=a.dg/\¬a.ds=a.dw)/\¬a.dg=a.dw);have bx:Bx a.six H (upd H a.da (.dK (zD ka (Sum.inr u) (.str p)))):=(Bx.of (Sr H)).upd (by simp [Fo.six]);obtain ⟨po,o1,o2,o3⟩:=p2;refine ⟨⟨qaH h.sm (h.fr _ (by simp [Fo.six])),h.web,h.prt,h.fr,h.nd,fun c hc=>⟨(h.exf c hc).1,(h.exf c hc).2.1,(h.exf c hc).2.2.elim fun o e=>⟨o,bx _ _ (h.exf c hc).2.1 e⟩⟩,h.obj.eq (qf n2),⟨kr,by rw [qf n6];exact r1,r2,fun y=>(r3 y).mono bx Fo.sub⟩,⟨_,qb,⟨po++[u],by have:=jm ka (Sum.inr u:Key) (.str p);rw [yt];show _<=_ + 1;omega,Yg.mpr ⟨o2,Y9 _ _,fun x hx y hy e=>(o3 u (by rw [<- yy.mp hy,<- e];exact hx)).2 hun⟩,fun x hx=>?_⟩,fun s=>?_⟩,⟨k,by rw [qf (Yn n10)];exact b1,b2,b3⟩,⟨xs,by rw [qf (Yn n11)];exact g1,g2⟩,by rw [qf (Yn n12)];exact h.wai,h.evn,h.evi,h.evs⟩,yi o1 (zz o2 fun x hx=>(o3 x hx).1)⟩
 ·show x∈ss/\(if x=u then some p else S.par x)≠none;by_cases e:x=u
  ·rw [yF e,e];exact ⟨hus,fun z=>by cases z⟩
  ·rw [yC e];exact o3 x ((yz.mp hx).resolve_right fun z=>e (yy.mp z))
 ·rw [qad,p3];show _=(if s=u then some p else S.par s).map V.str;by_cases e:s=u
  ·subst e;rw [yF rfl,yF rfl];rfl
  ·rw [yC (fun x=>e (xn x)),yC e]
theorem ok_la (F:Fun K "look_around" "Forest.look_around" jd f fd) (T:Txt K mg cc cw) (Kp:MethOk P w K mg base CX0 6 cw "beside" ["self","place"] (spBs cw)) (KN:MethOk P w K mg base CX0 3 (cc 9) "bring_together" ["self","one","other"] (spBt cc cw)) (Kj:MethOk P w K mg base CX0 1 (cc 9) "reach" ["self","place","row"] (spRe cc cw)):FnOk P w K mg base CX0 7 f fd ["self","place"] (spLa cc cw):=by
 refine F.ok Kk fun _ _ _ s H vs Q E hr h=>?_
 ·obtain ⟨H0,a,ss,ns,qs,S,dn,wt,v,B,rfl,h,hWb,hnm,hbs,hsg,I,hC,q1,q2⟩:=h;have hu:=jP hr;refine ⟨_,(qe (ji yV rfl (qQ (K:=K) rfl (qE Kp (hmR hr) (qA (K:=K) rfl (pv 0) rfl) (qa (pv 1) qd))) (qq (i:=2) Kk.nd rfl (yE rfl))
 (qc (qT (qo (zS (K:=K) rfl hu) (pv 2) (qA (K:=K) rfl (pv 0) rfl) (by with_unfolding_all rfl)) (qe (qL (qE KN (hmR hr) (pv 0) (qa (pv 1) (qa (pv 2) qd))))) (qe (qT (qo (zg (K:=K) rfl hu) (pv 2) (qA (K:=K) rfl (pv 0) rfl) (by with_unfolding_all rfl)) (qc (qj (i:=3) Kk.nd rfl (yE rfl) (qr (qt (K:=K) rfl hu) (qA (K:=K) rfl (pv 0) rfl) (pv 2) (fun _ _=>rfl)))
 (qc (jK (pv 1) (jJ (qA (K:=K) rfl (pv 0) rfl) (pv 2) (jL hu)))
 (qe (qL (qE Kj (hmR hr) (pv 0) (qa (pv 3) (qa (qx (j3 (K:=K) rfl) (qr (qt (K:=K) rfl hu) (qA (K:=K) rfl (pv 0) rfl) (pv 1) (fun _ _=>rfl)) (qM (qa (pv 2) (qa (pv 3) qd)))) qd))))))) qv)))
 (qe (qT (qo qcY (qA (K:=K) rfl (pv 0) rfl) qap (qB _)) (qe ps_retN) qv))))),?_⟩
  have hvs:v∈ss:=h.evs v (by simp)
  obtain ⟨rv,hrv⟩:∃ r,S.rows v=some r:=by
   cases e:S.rows v with
   | none=>exact absurd e ((h.evi v).mp (by simp))
   | some r=>exact ⟨r,rfl⟩
  obtain ⟨j,hj⟩:=yf hvs;have hWt:=h.web.same h.sm;obtain ⟨wx,dd,ol,nn,hb,_⟩:=id hWt;ext;refine .inl (h.obj.rd T 0 rfl ?_);refine ⟨a.b,wx,_,rfl,hb,jU (by decide +kernel),?_⟩;ext;refine ⟨a.b,ss,ns,v,j,rfl,hWt,hj,fun H1 s1 bl hbl=>?_⟩;have hbes:=fun u=>hbs j v u hj;have hbl14:(inB ss 0 (ns.getD j 0)).length<=14:=yi (qaZ _ _ _) hWb.few;generalize inB ss 0 (ns.getD j 0)=bes at hbes hbl14 ⊢;have nbl:=(h.same s1).new hbl;have s2:=qF s1 (o:=.lst (bes.map V.str)) hbl;have eb:upd H1 bl (.lst (bes.map V.str)) bl=some (.lst (bes.map V.str)):=qb;generalize upd H1 bl (.lst (bes.map V.str))=H2 at s2 eb;have h2:=h.same s2;refine .inl ⟨⟨_,.of eb⟩,qV (xs:=bes.map V.str) (fun i σ J=>∃ (S':FS) (more:List Str) (y2 y3:Option V),σ=[some (.ref a.x),some (.str v),y2,y3]/\FoA (cc 9) cw H0 J a ss ns qs S' ss (dn++[v]) (wt++more) .non/\Bx a.six H2 J/\FI B (pt qs) S'/\Mono S S'/\∀ u∈bes.take i,S'.bas u=S'.bas v\/(S'.par u≠none/\u∉dn++[v])) ⟨S,[],_,_,rfl,by rw [Yi];exact h2,fun _ _ _ e=>e,I,Mono.refl S,(fun u hu=>by simp at hu)⟩ (fun i σ J _ hp=>?_) (fun i y σ J hy hp=>?_) fun σ J hp=>?_⟩
  ·obtain ⟨S',more,y2,y3,rfl,_,bx,_⟩:=hp;exact .of (bx _ _ nbl eb)
  ·obtain ⟨S',more,y2,y3,rfl,hJ,bx,I',hM,hP⟩:=hp;rw [yd] at hy;obtain ⟨u,hu9,rfl⟩:=yn.mp hy;have hvu:B v u:=(hbes u).mp (ye hu9);have hus:u∈ss:=hWb.inn _ _ (hWb.gr.as hvu);have hrv':=hM.ro v rv hrv;have htk:bes.take (i + 1)=bes.take i++[u]:=by rw [yH,hu9];rfl
   obtain ⟨kr,r1,r2,r3⟩:=hJ.row;have hru:=r3 u;ext;refine .inl (hJ.obj.rd T 2 rfl ?_);refine .inr (.inl ⟨a.dr,_,rfl,DGet.k (k:=Sum.inr u) r1,?_⟩)
   cases eu:S'.rows u with
   | some ru =>
    rw [eu] at hru;obtain ⟨tu,k1,k2,_⟩:=hru;rw [k1];refine ⟨_,rfl,zN ?_⟩;ext;obtain ⟨dx,fs,hx1,_,_,_,hx2⟩:=id hJ.obj;refine ⟨a.x,dx,fs,rfl,hx1,hx2 _ (by decide +kernel),?_⟩;ext;refine ⟨H0,a,ss,ns,qs,S',dn++[v],wt++more,v,u,rv,ru,B,rfl,hJ,hWb,I',hrv',eu,hvu,fun H5 S5 mo5 h5 bx5 I5 hb5 m5=>?_,fun H5 t5 r5 h5 bx5 e5 n5 hA5 hl5=>?_⟩
    ·ext;refine .inl (h5.obj.rd T 7 rfl ?_);ext;refine ⟨rfl,_,rfl,qP (fun h=>by simp at h) fun _=>?_⟩;refine ⟨S5,more++mo5,_,_,rfl,by rw [<- Yj wt];exact h5,bx.trans bx5,I5,hM.trans m5,fun z hz=>?_⟩;rw [htk] at hz;rcases yz.mp hz with hz | hz
     ·exact (hP z hz).imp (m5.ba z v) fun y=>⟨m5.pa z y.1,y.2⟩
     ·rw [yy.mp hz];exact .inl hb5.symm
    ·ext;refine .inl (h5.obj.rd T 7 rfl ?_);ext;refine ⟨rfl,_,rfl,zN ?_⟩;exact q2 H5 S' more t5 r5 h5 (((Bx.of s2).trans bx).trans bx5) e5 n5 hA5 hl5
   | none =>
    rw [eu] at hru;have hru':jS kr (.inr u:Key)=none:=hru;rw [hru'];have hud:u∉dn++[v]:=fun z=>(hJ.evi u).mp (yP _ z) eu;refine ⟨_,rfl,qP (fun h=>by cases h) fun _=>?_⟩;obtain ⟨ka,p1,p2,p3⟩:=hJ.par;ext;refine .inl (hJ.obj.rd T 3 rfl ?_);refine .inr (.inl ⟨a.da,_,rfl,DGet.k (k:=Sum.inr u) p1,?_⟩);rw [p3]
    cases ep:S'.par u with
    | some z =>
     refine ⟨_,rfl,qP (fun h=>by cases h) fun _=>?_⟩;ext;refine .inl (hJ.obj.rd T 7 rfl ?_);ext;refine ⟨rfl,_,rfl,qP (fun h=>by simp at h) fun _=>?_⟩;refine ⟨S',more,_,_,rfl,hJ,bx,I',hM,fun z hz=>?_⟩;rw [htk] at hz;rcases yz.mp hz with hz | hz
     ·exact hP z hz
     ·rw [yy.mp hz];exact .inr ⟨by rw [ep];exact (fun y=>by cases y),hud⟩
    | none =>
     refine ⟨_,rfl,zN ?_⟩
     obtain ⟨y,hy9⟩:∃ y,pt qs u=some y:=by
      cases e:pt qs u with
      | some y=>exact ⟨y,rfl⟩
      | none =>
       exfalso;have k:=hsg u hus e
       cases e2:S.rows u with
       | none=>exact k e2
       | some r=>rw [hM.ro u r e2] at eu;cases eu
     have hys:y∈ss:=hWb.inn _ _ (hWb.gr.as (hWb.gr.fa hy9));have hyn:=I'.fresh hWb.gr eu ep hy9;have hpJ:=hJ.sm _ _ h.prt;obtain ⟨h3,hkl⟩:=hJ.setP (p:=v) p1 hus ep;have hss:=hWb.few;ext;refine .inl (hJ.obj.rd T 1 rfl ?_);ext;refine qeg hpJ (by rw [jD,hy9];rfl) ?_;ext;refine .inl (hJ.obj.rd T 3 rfl ?_);ext;refine .inr ⟨a.da,_,rfl,DPut.k (k:=Sum.inr u) p1 (by rw [YC];omega),?_⟩;have bx3:Bx a.six H2 (upd J a.da (.dK (zD ka (Sum.inr u) (.str v)))):=bx.upd (by simp [Fo.six]);generalize upd J a.da (.dK (zD ka (Sum.inr u) (.str v)))=J3 at h3 bx3;ext;obtain ⟨dx,fs,hx1,_,_,_,hx2⟩:=id h3.obj;refine ⟨a.x,dx,fs,rfl,hx1,hx2 _ (by decide +kernel),?_⟩;ext;refine .inl (h3.obj.rd T 2 rfl ?_);ext;refine h3.rowAt (S:=S'.setPar u v) hrv' fun tv etv=>?_;ext;refine ⟨by show 2<=sizeLine;decide,fun c1 hc1=>?_⟩;have t1:=qF (Sr J3) (o:=.lst [.str u,.str y]) hc1;have ec1:upd J3 c1 (.lst [.str u,.str y]) c1=some (.lst [.str u,.str y]):=qb;generalize upd J3 c1 (.lst [.str u,.str y])=J4 at t1 ec1;have hrl:=((I'.alt v rv hrv').inn hWb hvs).1;refine qeG (t1 _ _ etv) ec1 (by rw [ya];show _ + 2<=_;omega) fun c2 hc2=>?_;have n2:=(h3.same t1).newA hc2;have t2:=qF t1 (o:=.lst (rv.map V.str++[.str u,.str y])) hc2;have ec2:upd J4 c2 (.lst (rv.map V.str++[.str u,.str y])) c2=some (.lst ((rv++[u,y]).map V.str)):=by rw [qb,yu];rfl
     generalize upd J4 c2 (.lst (rv.map V.str++[.str u,.str y]))=J5 at t2 ec2;ext;refine ⟨H0,a,ss,ns,qs,S'.setPar u v,ss,dn++[v],wt++more,.non,y,c2,rv++[u,y],rfl,h3.same t2,hWb.few,ec2,n2,hys,hyn,fun H6 h6 bx6 _=>?_⟩;have W:Gw S' ((S'.setPar u v).setRow y (rv++[u,y])) v u y rv:=⟨yF rfl,fun s hs=>yC hs,yF rfl,fun s hs=>yC hs,rfl⟩;have I6:=I'.grow hWb.gr hrv' hvu eu ep hy9 W
     have m6:Mono S' ((S'.setPar u v).setRow y (rv++[u,y])):=⟨fun _ _ e=>e,fun z hz=>by
      show (if z=u then some v else S'.par z)≠none;split
      ·exact fun x=>by cases x
      ·exact hz,fun z r e=>by rw [W.ro z (fun x=>by rw [x,hyn] at e;cases e)];exact e⟩
     ext;refine .inl (h6.obj.rd T 7 rfl ?_);ext;refine ⟨rfl,_,rfl,qP (fun h=>by simp at h) fun _=>?_⟩;refine ⟨_,more++[y],_,_,rfl,by rw [<- Yj wt];exact h6,(bx3.trans (Bx.of t2)).trans bx6,I6,hM.trans m6,fun z hz=>?_⟩;rw [htk] at hz;rcases yz.mp hz with hz | hz
     ·exact (hP z hz).imp (m6.ba z v) fun y=>⟨m6.pa z y.1,y.2⟩
     ·rw [yy.mp hz];exact .inr ⟨by rw [W.pu];exact (fun x=>by cases x),hud⟩
  ·obtain ⟨S',more,y2,y3,rfl,hJ,bx,I',hM,hP⟩:=hp;rw [ya,yM] at hP;refine q1 J S' more hJ ((Bx.of s2).trans bx) I' ?_ hM;have hC':=hC.on hM;refine ⟨fun z u hz hzu=>?_,fun z hz=>?_⟩
   ·rcases yz.mp hz with hz1 | hz1
    ·by_cases huv:u=v
     ·rw [huv] at hzu ⊢;rcases hP z ((hbes z).mpr (hWb.gr.as hzu)) with y | y
      ·exact .inl y.symm
      ·exact absurd (yP _ hz1) y.2
     ·rcases hC'.cl z u hz1 hzu with y | ⟨y1,y2⟩
      ·exact .inl y
      ·exact .inr ⟨y1,fun x=>(yz.mp x).elim y2 fun x=>huv (yy.mp x)⟩
    ·rw [yy.mp hz1] at hzu ⊢;exact hP u ((hbes u).mpr hzu)
   ·exact (hJ.evi z).mp (yP _ hz)
theorem KS:FnScope ["self","place"] ["self"] (qg j6):=fS
structure FoD (cf cw:Addr) (H0 H:Hp) (a:Fo) (ss:List Str) (ns:List Nat) (qs:List (Str×Str)) (S:FS) (dn wt:List Str) (lo:V) (A:Str->Str->Prop):Prop where
 fo:FoA cf cw H0 H a ss ns qs S ss dn wt lo
 en:(lo=.non/\wt=[]/\FI A (pt qs) S/\CI A S (fun u=>u∈dn)/\∀ z∈ss,pt qs z=none->S.rows z≠none)\/∃ t r,lo=.ref t/\H t=some (.lst (r.map V.str))/\t∉a.all/\Aug A (pt qs) r/\r.length<=28
noncomputable def S0:FS:=⟨fun _=>none,fun _=>none,fun s=>s⟩
noncomputable def SI (qs:List (Str×Str)) (l:List Str):FS:=⟨fun s=>if s∈l/\pt qs s=none then some [s] else none,fun _=>none,fun s=>s⟩
theorem SI_nil (qs:List (Str×Str)):SI qs []=S0:=by unfold SI S0;simp
theorem SI_on {l:List Str} (h:pt qs z=none):SI qs (l++[z])=(SI qs l).setRow z [z]:=by
 unfold SI FS.setRow
 congr 1
 funext s;dsimp only;by_cases e:s=z
 ·subst e;rw [yF ⟨by simp,h⟩,yF rfl]
 ·rw [yC e];have:s∈l++[z]↔s∈l:=by simp [e]
  simp only [this]
theorem SI_off {l:List Str} (h:pt qs z≠none):SI qs (l++[z])=SI qs l:=by
 unfold SI
 congr 1
 funext s;by_cases e:s=z
 ·subst e;rw [yC (fun k=>h k.2),yC (fun k=>h k.2)]
 ·have:s∈l++[z]↔s∈l:=by simp [e]
  simp only [this]
inductive spGw (cc:Nat->Addr) (cw:Addr) (vs:List V) (H:Hp) (Q:VK) (E:XK):Prop|mk (H0:Hp) (a:Fo) (ss:List Str) (ns:List Nat) (qs:List (Str×Str)) (A:Str->Str->Prop) (_:vs=[.ref a.x]) (_:FoA (cc 9) cw H0 H a ss ns qs S0 [] [] [] .non) (_:Wb A ss qs) (_:(∀ s∈ss,zG s=true)) (_:(∀ (j:Nat) z u,ss[j]?=some z->(u∈inB ss 0 (ns.getD j 0)↔A z u))) (_:∀ (H':Hp) (S:FS) (dn wt:List Str) (lo:V),FoD (cc 9) cw H0 H' a ss ns qs S dn wt lo A->Bx a.six H H'->Q .non H')
theorem ix_natF {k:Nat} (h:k < n):seqIndex? (k:Int) n=some k:=by
 unfold seqIndex?;simp;omega
theorem nin_prF {d:Addr} {Q:VK} (hd:H d=some (.dK (prK qs))) (q:Q (.bl (!(pt qs s).isSome)) H):qev K true (.str s) (.ref d) H Q:=by
 refine .inr (.inl ⟨d,_,rfl,DGet.k (k:=Sum.inr s) hd,?_⟩);rw [jD,yF rfl,xA];exact q
theorem FoA.ne {a:Fo} {bs wt:List Str} (h:FoA (cc 9) cw H0 H a ss ns qs S bs dn wt lo):(¬a.x=a.dr/\¬a.x=a.da/\¬a.x=a.ds/\¬a.x=a.dg/\¬a.x=a.dw)/\(¬a.dr=a.da/\¬a.dr=a.ds/\¬a.dr=a.dg/\¬a.dr=a.dw)/\(¬a.da=a.ds/\¬a.da=a.dg/\¬a.da=a.dw)/\(¬a.ds=a.dg/\¬a.ds=a.dw)/\¬a.dg=a.dw:=by simpa [Fo.six] using h.sep
theorem FoA.setN {a:Fo} {bs wt:List Str} {ks:List (Key×V)} (h:FoA (cc 9) cw H0 H a ss ns qs S bs dn wt lo) (hk:H a.ds=some (.dK ks)) (hz:S.bas z=z):FoA (cc 9) cw H0 (upd H a.ds (.dK (zD ks (Sum.inr z) (.str z)))) a ss ns qs S (bs++[z]) dn wt lo/\ks.length<=bs.length:=by
 obtain ⟨kr,r1,r2,r3⟩:=h.row;obtain ⟨ka,p1,p2,p3⟩:=h.par;obtain ⟨k,b1,b2,b3⟩:=h.bas;obtain ⟨xs,g1,g2⟩:=h.rng;rw [hk] at b1;cases b1;obtain ⟨⟨n1,n2,n3,n4,n5⟩,⟨n6,n7,n8,n9⟩,⟨n10,n11,n12⟩,⟨n13,n14⟩,n15⟩:=h.ne;have bx:Bx a.six H (upd H a.ds (.dK (zD ks (Sum.inr z) (.str z)))):=(Bx.of (Sr H)).upd (by simp [Fo.six]);refine ⟨⟨qaH h.sm (h.fr _ (by simp [Fo.six])),h.web,h.prt,h.fr,h.nd,fun c hc=>⟨(h.exf c hc).1,(h.exf c hc).2.1,(h.exf c hc).2.2.elim fun o e=>⟨o,bx _ _ (h.exf c hc).2.1 e⟩⟩,h.obj.eq (qf n3),⟨kr,by rw [qf n7];exact r1,r2,fun y=>(r3 y).mono bx Fo.sub⟩,⟨ka,by rw [qf n10];exact p1,p2,p3⟩,⟨_,qb,by have:=jm ks (Sum.inr z:Key) (.str z);rw [yt];show _<=_ + 1;omega,fun u hu=>?_⟩,⟨xs,by rw [qf (Yn n13)];exact g1,g2⟩,by rw [qf (Yn n14)];exact h.wai,h.evn,h.evi,h.evs⟩,b2⟩;rw [qad];by_cases e:u=z
 ·subst e;rw [yF rfl,hz]
 ·rw [yC (fun x=>e (xn x))];exact b3 u ((yz.mp hu).resolve_right fun y=>e (yy.mp y))
theorem FoA.pop {a:Fo} {bs wt:List Str} (h:FoA (cc 9) cw H0 H a ss ns qs S bs dn (v::wt) lo):FoA (cc 9) cw H0 (upd H a.dw (.lst (wt.map V.str))) a ss ns qs S bs (dn++[v]) wt lo:=by
 obtain ⟨kr,r1,r2,r3⟩:=h.row;obtain ⟨ka,p1,p2,p3⟩:=h.par;obtain ⟨k,b1,b2,b3⟩:=h.bas;obtain ⟨xs,g1,g2⟩:=h.rng;obtain ⟨⟨n1,n2,n3,n4,n5⟩,⟨n6,n7,n8,n9⟩,⟨n10,n11,n12⟩,⟨n13,n14⟩,n15⟩:=h.ne;have el:dn++[v]++wt=dn++v::wt:=by simp
 have bx:Bx a.six H (upd H a.dw (.lst (wt.map V.str))):=(Bx.of (Sr H)).upd (by simp [Fo.six]);exact ⟨qaH h.sm (h.fr _ (by simp [Fo.six])),h.web,h.prt,h.fr,h.nd,fun c hc=>⟨(h.exf c hc).1,(h.exf c hc).2.1,(h.exf c hc).2.2.elim fun o e=>⟨o,bx _ _ (h.exf c hc).2.1 e⟩⟩,h.obj.eq (qf n5),⟨kr,by rw [qf n9];exact r1,by rw [el];exact r2,fun y=>(r3 y).mono bx Fo.sub⟩,⟨ka,by rw [qf n12];exact p1,p2,p3⟩,⟨k,by rw [qf n14];exact b1,b2,b3⟩,⟨xs,by rw [qf n15];exact g1,by rw [el];exact g2⟩,qb,by rw [el];exact h.evn,by rw [el];exact h.evi,by rw [el];exact h.evs⟩
theorem ok_gw (F:Fun K "grow" "Forest.grow" j6 f fd) (T:Txt K mg cc cw) (kY:MethOk P w K mg base CX0 1 cw "places" ["self"] (spPls cw)) (Kj:MethOk P w K mg base CX0 1 (cc 9) "reach" ["self","place","row"] (spRe cc cw)) (KW:MethOk P w K mg base CX0 7 (cc 9) "look_around" ["self","place"] (spLa cc cw)):FnOk P w K mg base CX0 8 f fd ["self"] (spGw cc cw):=by
 refine F.ok KS fun _ _ _ _ H vs Q E hr h=>?_
 ·obtain ⟨H0,a,ss,ns,qs,B,rfl,h,hWb,hnm,hbs,q⟩:=h;have hu:=jP hr;have hss:=hWb.few;refine ⟨_,(qc (ji yV rfl (qQ (K:=K) rfl (qX kY (hmR hr) (qA (K:=K) rfl (pv 0) rfl))) (qq (i:=1) KS.nd rfl (yE rfl))
 (qc (jK (pv 1) (jJ (qA (K:=K) rfl (pv 0) rfl) (pv 1) (jL hu)))
 (qe (qT (qo (zg (K:=K) rfl hu) (pv 1) (qA (K:=K) rfl (pv 0) rfl) (by with_unfolding_all rfl)) (qe (qL (qE Kj (hmR hr) (pv 0) (qa (pv 1) (qa (qM (qa (pv 1) qd)) qd))))) qv))))
 (qe (zZ yV (PW.pt (qbj (qo qez (qp (jI (K:=K) rfl) rfl T.b_len YA (qa (qA (K:=K) rfl (pv 0) rfl) qd)) qh (qB _)) (qbX (qo qfY (qA (K:=K) rfl (pv 0) rfl) qap (qB _)))))
 (qe (qL (qE KW (hmR hr) (pv 0) (qa (qaW (K:=K) rfl yD XH XI qcB (qA (K:=K) rfl (pv 0) rfl) (qa qh qd)) qd))))))),?_⟩
  have hWt:=h.web.same h.sm;obtain ⟨wx,dd,ol,nn,hb,_⟩:=id hWt;ext;refine .inl (h.obj.rd T 0 rfl ?_);refine ⟨a.b,wx,_,rfl,hb,jU (by decide +kernel),?_⟩;ext;refine ⟨a.b,ss,ns,rfl,hWt,fun pl hpl=>?_⟩;have npl:=h.new hpl;have s1:=qF (Sr H) (o:=.lst (ss.map V.str)) hpl;have e1:upd H pl (.lst (ss.map V.str)) pl=some (.lst (ss.map V.str)):=qb;generalize upd H pl (.lst (ss.map V.str))=H1 at s1 e1;refine .inl ⟨⟨_,.of e1⟩,qV (xs:=ss.map V.str) (fun i σ J=>∃ (wl:List Str) (y1:Option V),σ=[some (.ref a.x),y1]/\FoA (cc 9) cw H0 J a ss ns qs (SI qs (ss.take i)) (ss.take i) [] wl .non/\Bx a.six H1 J) ⟨[],_,rfl,by rw [List.take_zero,SI_nil];exact h.same s1,fun _ _ _ e=>e⟩ (fun i σ J _ hp=>?_) (fun i y σ J hy hp=>?_) fun σ J hp=>?_⟩
  ·obtain ⟨wl,y1,rfl,_,bx⟩:=hp;exact .of (bx _ _ npl e1)
  ·obtain ⟨wl,y1,rfl,hJ,bx⟩:=hp;rw [yd] at hy;obtain ⟨z,hz,rfl⟩:=yn.mp hy;have hil:=(yc.mp hz).1;have hzs:=ye hz;have htk:ss.take (i + 1)=ss.take i++[z]:=by rw [yH,hz];rfl
   obtain ⟨ks,b1,b2,b3⟩:=hJ.bas;rw [yL] at b2;obtain ⟨h2,_⟩:=hJ.setN (z:=z) b1 rfl;ext;refine .inl (hJ.obj.rd T 4 rfl ?_);ext;refine .inr ⟨a.ds,_,rfl,DPut.k (k:=Sum.inr z) b1 (by rw [YC];omega),?_⟩;have bx2:Bx a.six H1 (upd J a.ds (.dK (zD ks (Sum.inr z) (.str z)))):=bx.upd (by simp [Fo.six]);generalize upd J a.ds (.dK (zD ks (Sum.inr z) (.str z)))=J2 at h2 bx2;have hp2:=h2.sm _ _ h.prt;ext;refine .inl (h2.obj.rd T 1 rfl ?_);refine nin_prF hp2 ⟨_,rfl,?_⟩
   cases ez:pt qs z with
   | some y =>
    refine yq ?_;exact ⟨wl,_,rfl,by rw [htk,SI_off (by rw [ez];exact fun k=>nomatch k)];exact h2,bx2⟩
   | none =>
    refine zN ?_;ext;obtain ⟨dx,fs,hx1,_,_,_,hx2⟩:=id h2.obj;refine ⟨a.x,dx,fs,rfl,hx1,hx2 _ (by decide +kernel),?_⟩;ext;refine ⟨by show 1<=sizeLine;decide,fun c1 hc1=>?_⟩;have n1:=h2.newA hc1;have t1:=qF (Sr J2) (o:=.lst [.str z]) hc1;have ec1:upd J2 c1 (.lst [.str z]) c1=some (.lst ([z].map V.str)):=qb;generalize upd J2 c1 (.lst [.str z])=J3 at t1 ec1
    have hzn:z∉ss.take i:=fun y=>by
     obtain ⟨j,hj⟩:=yf y;have hjl:=(yc.mp hj).1;rw [yL] at hjl;rw [List.getElem?_take,yF (by omega)] at hj;have:=qz hWb.nd hj hz;omega
    ext;refine ⟨H0,a,ss,ns,qs,SI qs (ss.take i),ss.take i++[z],[],wl,.non,z,c1,[z],rfl,h2.same t1,hss,ec1,n1,hzs,yC (fun k=>hzn k.1),fun H6 h6 bx6 _=>?_⟩;exact ⟨wl++[z],_,rfl,by rw [htk,SI_on ez];exact h6,(bx2.trans (Bx.of t1)).trans bx6⟩
  ·obtain ⟨wl,y1,rfl,hJ,bx⟩:=hp;rw [ya,yM] at hJ;have bx0:Bx a.six H J:=(Bx.of s1).trans bx
   have IJ:FI B (pt qs) (SI qs ss):=FI.start (fun v r e=>by
    have e':(if v∈ss/\pt qs v=none then some [v] else none)=some r:=e;split at e'
    ·rename_i k;exact ⟨k.2,(ym e').symm⟩
    ·cases e') (fun _=>rfl) fun _=>rfl
   ext;obtain ⟨W,hW0⟩:∃ W:Nat->L2.St->Hp->Prop,W=fun m σ J=>∃ (S:FS) (dn wt:List Str) (lo:V) (y1:Option V),σ=[some (.ref a.x),y1]/\Bx a.six H J/\((lo=.non/\m=15 - dn.length/\FoA (cc 9) cw H0 J a ss ns qs S ss dn wt .non/\FI B (pt qs) S/\CI B S (fun u=>u∈dn)/\∀ z∈ss,pt qs z=none->S.rows z≠none)\/(lo≠.non/\m=0/\FoD (cc 9) cw H0 J a ss ns qs S dn wt lo B)):=⟨_,rfl⟩;refine ⟨W,⟨15,by rw [hW0];exact ⟨SI qs ss,[],wl,.non,_,rfl,bx0,.inl ⟨rfl,rfl,hJ,IJ,⟨(fun v u k=>by cases k),(fun v k=>by cases k)⟩,fun z hz e=>by show (if _ then _ else _)≠none;rw [yF ⟨hz,e⟩];exact fun k=>by cases k⟩⟩⟩,fun m σ J hW=>?_⟩;rw [hW0] at hW;obtain ⟨S,dn,wt,lo,y1',rfl,bxJ,hcase⟩:=hW;rcases hcase with ⟨rfl,hm,hF,I,hC,hsg⟩ | ⟨hlo,hm,hD⟩
   ·have hwai:=hF.wai;ext;refine .inl (hF.obj.rd T 6 rfl ?_);ext;refine zd hwai ?_;rw [ya];ext
    cases wt with
    | nil =>
     refine qP (fun h=>by simp at h) fun _=>qP (fun h=>by cases h) fun _=>?_;exact q J S dn [] .non ⟨hF,.inl ⟨rfl,rfl,I,hC,hsg⟩⟩ bxJ
    | cons v wt =>
     refine qP (fun _=>?_) fun h=>absurd (yG (by simp)) h;ext;refine .inl (hF.obj.rd T 7 rfl ?_);ext;refine ⟨_,rfl,zN ⟨fun σ' H'=>∃ m',m' < m/\W m' σ' H',fun _ _ z=>z,?_⟩⟩;have hdl:dn.length + 1<=14:=by have:=hF.few;rw [yt,yA] at this;omega
     ext;obtain ⟨dx,fs,hx1,_,_,_,hx2⟩:=id hF.obj;refine ⟨a.x,dx,fs,rfl,hx1,hx2 _ (by decide +kernel),?_⟩;ext;refine .inl (hF.obj.rd T 6 rfl ?_);refine ⟨.inl ⟨rfl,_,.of hwai⟩,?_⟩;ext;refine ⟨a.dw,_,0,0,.str v,rfl,rfl,hwai,by decide,by decide,by rw [ya];exact ix_natF (by simp),rfl,?_⟩;have hp:=hF.pop;have bxp:Bx a.six H (upd J a.dw (.lst (wt.map V.str))):=bxJ.upd (by simp [Fo.six]);ext;show spLa cc cw _ (upd J a.dw (.lst (wt.map V.str))) _ _;generalize upd J a.dw (.lst (wt.map V.str))=J2 at hp bxp;refine ⟨H0,a,ss,ns,qs,S,dn,wt,v,B,rfl,hp,hWb,hnm,hbs,hsg,I,hC,fun H5 S5 mo h5 bx5 I5 C5 m5=>?_,fun H5 S5 mo t5 r5 h5 bx5 e5 n5 hA5 hl5=>?_⟩
     ·refine ⟨15 - (dn++[v]).length,by rw [hm,yt];show _ - (_ + 1) < _;omega,?_⟩;rw [hW0]
      exact ⟨S5,dn++[v],wt++mo,.non,_,rfl,bxp.trans bx5,.inl ⟨rfl,rfl,h5,I5,C5,fun z hz e=>(by
       have k:=hsg z hz e
       cases e2:S.rows z with
       | none=>exact absurd e2 k
       | some r=>rw [m5.ro z r e2];exact fun x=>by cases x)⟩⟩
     ·refine ⟨0,by omega,?_⟩;rw [hW0];exact ⟨S5,dn++[v],wt++mo,.ref t5,_,rfl,bxp.trans bx5,.inr ⟨(fun e=>by cases e),rfl,⟨h5,.inr ⟨t5,r5,rfl,e5,n5,hA5,hl5⟩⟩⟩⟩
   ·have hwai:=hD.fo.wai;rcases hD.en with k | ⟨t,r,rfl,_⟩
    ·exact absurd k.1 hlo
    ext;refine .inl (hD.fo.obj.rd T 6 rfl ?_);ext;refine zd hwai ?_;ext;refine qP (fun _=>?_) (fun _=>qP (fun h=>by cases h) fun _=>q J S dn wt _ hD bxJ);ext;refine .inl (hD.fo.obj.rd T 7 rfl ?_);ext;refine ⟨_,rfl,qP (fun h=>by cases h) fun _=>?_⟩;exact q J S dn wt _ hD bxJ
theorem uq:FnScope ["self","web","pairs"] ["self","web","pairs"] (qg j7):=fS
theorem uB:FnScope ["self"] ["self"] (qg zr):=fS
theorem K7:FnScope ["self"] ["self"] (qg jj):=fS
noncomputable def qe9 (p:Addr) (H:Hp):Hp:=fun b=>if b=p then none else H b
theorem zJ {b:Addr} (h:b≠p):qe9 p H b=H b:=yC h
theorem lkn {f g:Str} {v:V} {fs:List (Str×V)} (h:f≠g) (k:fs.lookup f=none):(qG g v fs).lookup f=none:=by rw [qC,yC h];exact k
inductive spFi (cc:Nat->Addr) (cw:Addr) (vs:List V) (H:Hp) (Q:VK) (E:XK):Prop|mk (x dx b r:Addr) (ss:List Str) (ns:List Nat) (us:List Addr) (tps qs:List (Str×Str)) (A:Str->Str->Prop) (_:vs=[.ref x,.ref b,.ref r]) (_:H x=some (.ins (cc 9) dx [])) (_:WebAt cw H b ss ns) (_:Adj ss ns tps) (_:Wb A ss qs) (_:(∀ s∈ss,zG s=true)) (_:(∀ (j:Nat) z u,ss[j]?=some z->(u∈inB ss 0 (ns.getD j 0)↔A z u))) (_:PL H r us qs) (_:qs.length<=30) (_:(∀ q∈qs,(q∈tps\/(q.2,q.1)∈tps)/\q.1∈ss/\q.2∈ss/\q.1≠q.2)) (_:∀ (H0 H':Hp) (a:Fo) (S:FS) (dn wt:List Str) (lo:V),a.x=x->a.ex=[]->FoD (cc 9) cw H0 H' a ss ns qs S dn wt lo A->L2.Same (qe9 x H) H0->Q .non H')
theorem WebAt.out {b:Addr} {fs:List (Str×V)} (h:WebAt cw H b ss ns) (hx:H x=some (.ins (cc 9) dx fs)) (hb:b≠x):WebAt cw (qe9 x H) b ss ns:=by
 obtain ⟨wx,d,ol,n,h1,h2,h3,h4,h5⟩:=h;refine ⟨wx,d,ol,n,(zJ hb).trans h1,(zJ ?_).trans h2,(zJ ?_).trans h3,(zJ ?_).trans h4,h5⟩
 ·exact qav h2 hx (fun z=>by cases z)
 ·exact qav h3 hx (fun z=>by cases z)
 ·exact qav h4 hx (fun z=>by cases z)
theorem ok_fi (F:Fun K "__init__" "Forest.__init__" j7 f fd) (T:Txt K mg cc cw) (kX:DefOk P w K mg base CX0 9 "partners_in" ["web","pairs"] (spPn cw)) (uC:MethOk P w K mg base CX0 8 (cc 9) "grow" ["self"] (spGw cc cw)):FnOk P w K mg base CX0 10 f fd ["self","web","pairs"] (spFi cc cw):=by
 refine F.ok uq fun _ _ _ s H vs Q E hr h=>?_
 ·obtain ⟨x,dx,b,r,ss,ns,us,tps,qs,B,rfl,hx,hW,hA,hWb,hnm,hbs,hP,hql,hqs,q⟩:=h;have hu:=jP hr;refine ⟨_,(qc (jY (K:=K) rfl (pv 0) (pv 1) rfl)
 (qc (jY (K:=K) rfl (pv 0) (qk kX (hmR hr) qw (qa (pv 1) (qa (pv 2) qd))) rfl)
 (qc (jY (K:=K) rfl (pv 0) jZ rfl)
 (qc (jY (K:=K) rfl (pv 0) jZ rfl)
 (qc (jY (K:=K) rfl (pv 0) jZ rfl)
 (qc (jY (K:=K) rfl (pv 0) (qM qd) rfl)
 (qc (jY (K:=K) rfl (pv 0) (qM qd) rfl)
 (qc (jY (K:=K) rfl (pv 0) qap rfl)
 (qe (qL (qX uC (hmR hr) (pv 0)))))))))))),?_⟩
  have nbx:b≠x:=fun e=>by
   obtain ⟨wx,d,ol,n,hb,_⟩:=id hW;subst e;rw [hx] at hb;injection hb with hb;injection hb with _ _ hb;cases hb
  have nrx:r≠x:=qav hP.1 hx (fun z=>by cases z)
  have nux:∀ u∈us,u≠x:=fun u hu=>by
   obtain ⟨q,_,eu⟩:=hP.2.mem hu;exact qav eu hx (fun z=>by cases z)
  have fa:∀ i,(h:i < 8)->NoAttr K (cc 9) (fAtt.getD i ""):=fun i h=>T.fa _ (by have:i < fAtt.length:=h;rw [Yk,yb this];exact Y0 this);ext;refine .inl ⟨x,cc 9,dx,[],rfl,hx,T.fcl,fa 0 (by decide),by decide,?_⟩;have b1:=(But.refl x H).put (o:=.ins (cc 9) dx (qG "board" (.ref b) []));have hx1:upd H x (.ins (cc 9) dx (qG "board" (.ref b) [])) x=some (.ins (cc 9) dx (qG "board" (.ref b) [])):=qb;generalize upd H x (.ins (cc 9) dx (qG "board" (.ref b) []))=H1 at b1 hx1 ⊢
  have keepW:∀ {J:Hp},But x H J->WebAt cw J b ss ns:=fun k=>by
   obtain ⟨wx,d,ol,n,h1,h2,h3,h4,h5⟩:=hW;exact ⟨wx,d,ol,n,k _ _ nbx h1,k _ _ (qav h2 hx (fun z=>by cases z)) h2,k _ _ (qav h3 hx (fun z=>by cases z)) h3,k _ _ (qav h4 hx (fun z=>by cases z)) h4,h5⟩
  have hP1:PL H1 r us qs:=⟨b1 _ _ nrx hP.1,hP.2.len,fun k t ab ht hab=>b1 _ _ (nux t (ye ht)) (hP.2.at_ k t ab ht hab)⟩;ext;refine ⟨b,r,ss,ns,us,tps,qs,rfl,keepW b1,hA,hP1,⟨hqs,hWb.qn,hql⟩,fun dp H2 s2 hdp0 hdp=>?_⟩;have hx2:=s2 _ _ hx1;have b2:=b1.same s2;have ndp:dp≠x:=fun e=>by rw [e,hx1] at hdp0;cases hdp0
  have hl:∀ {f:Str} {v:V} {fs:List (Str×V)} {n:Nat},fs.length<=n->(qG f v fs).length<=n + 1:=fun h=>yi (jy _ _ _) (by omega);ext;refine .inl ⟨x,cc 9,dx,_,rfl,hx2,T.fcl,fa 1 (by decide),Yr (hl (n:=0) (yh _)) (by decide),?_⟩
  have c3:L2.Same (qe9 x H2) (upd H2 x (.ins (cc 9) dx (qG "partners" (.ref dp) (qG "board" (.ref b) [])))):=fun c o e=>by
   have hc:c≠x:=fun z=>by rw [z] at e;unfold qe9 at e;rw [yF rfl] at e;cases e
   rw [zJ hc] at e;rw [qf hc];exact e
  have hx3:upd H2 x (.ins (cc 9) dx (qG "partners" (.ref dp) (qG "board" (.ref b) []))) x=some (.ins (cc 9) dx (qG "partners" (.ref dp) (qG "board" (.ref b) []))):=qb;obtain ⟨H0,hH0⟩:∃ H0,H0=qe9 x H2:=⟨_,rfl⟩;rw [<- hH0] at c3;have h0x:H0 x=none:=by rw [hH0];exact yF rfl
  have l3:(qG "partners" (.ref dp) (qG "board" (.ref b) [])).length<=2:=hl (hl (n:=0) (yh _));generalize upd H2 x (.ins (cc 9) dx (qG "partners" (.ref dp) (qG "board" (.ref b) [])))=H3 at c3 hx3 ⊢;obtain ⟨f3,hf3⟩:∃ f3,f3=qG "partners" (.ref dp) (qG "board" (.ref b) []):=⟨_,rfl⟩;rw [<- hf3] at hx3 l3;ext;intro dr hdr;have ndr:dr≠x:=fun e=>by rw [e,hx3] at hdr;cases hdr
  have zdr:H0 dr=none:=c3.free hdr;have hy3:upd H3 dr (.dK []) x=some (.ins (cc 9) dx f3):=by rw [qf ndr.symm];exact hx3
  ext;refine .inl ⟨x,cc 9,dx,_,rfl,hy3,T.fcl,fa 2 (by decide),Yr l3 (by decide),?_⟩;have c4:L2.Same H0 (upd (upd H3 dr (.dK [])) x (.ins (cc 9) dx (qG "rows" (.ref dr) f3))):=qaH (qF c3 hdr) h0x;have hx4:(upd (upd H3 dr (.dK [])) x (.ins (cc 9) dx (qG "rows" (.ref dr) f3))) x=some (.ins (cc 9) dx (qG "rows" (.ref dr) f3)):=qb;have l4:(qG "rows" (.ref dr) f3).length<=3:=hl l3;have edr4:(upd (upd H3 dr (.dK [])) x (.ins (cc 9) dx (qG "rows" (.ref dr) f3))) dr=some (.dK []):=by rw [qf ndr,qb]
  generalize upd (upd H3 dr (.dK [])) x (.ins (cc 9) dx (qG "rows" (.ref dr) f3))=H4 at c4 hx4 edr4 ⊢;obtain ⟨f4,hf4⟩:∃ f,f=qG "rows" (.ref dr) f3:=⟨_,rfl⟩;rw [<- hf4] at hx4 l4;ext;intro da hda;have nda:da≠x:=fun e=>by rw [e,hx4] at hda;cases hda
  have zda:H0 da=none:=c4.free hda;have ndadr:da≠dr:=fun e=>by rw [e,edr4] at hda;cases hda
  have hy4:upd H4 da (.dK []) x=some (.ins (cc 9) dx f4):=by rw [qf nda.symm];exact hx4
  ext;refine .inl ⟨x,cc 9,dx,_,rfl,hy4,T.fcl,fa 3 (by decide),Yr l4 (by decide),?_⟩;have c5:L2.Same H0 (upd (upd H4 da (.dK [])) x (.ins (cc 9) dx (qG "parents" (.ref da) f4))):=qaH (qF c4 hda) h0x;have hx5:(upd (upd H4 da (.dK [])) x (.ins (cc 9) dx (qG "parents" (.ref da) f4))) x=some (.ins (cc 9) dx (qG "parents" (.ref da) f4)):=qb;have l5:(qG "parents" (.ref da) f4).length<=4:=hl l4;have eda5:(upd (upd H4 da (.dK [])) x (.ins (cc 9) dx (qG "parents" (.ref da) f4))) da=some (.dK []):=by rw [qf nda,qb]
  have edr5:(upd (upd H4 da (.dK [])) x (.ins (cc 9) dx (qG "parents" (.ref da) f4))) dr=some (.dK []):=by rw [qf ndr,qf (Yn ndadr)];exact edr4
  generalize upd (upd H4 da (.dK [])) x (.ins (cc 9) dx (qG "parents" (.ref da) f4))=H5 at c5 hx5 edr5 eda5 ⊢;obtain ⟨f5,hf5⟩:∃ f,f=qG "parents" (.ref da) f4:=⟨_,rfl⟩;rw [<- hf5] at hx5 l5;ext;intro ds hds;have nds:ds≠x:=fun e=>by rw [e,hx5] at hds;cases hds
  have zds:H0 ds=none:=c5.free hds;have ndsdr:ds≠dr:=fun e=>by rw [e,edr5] at hds;cases hds
  have ndsda:ds≠da:=fun e=>by rw [e,eda5] at hds;cases hds
  have hy5:upd H5 ds (.dK []) x=some (.ins (cc 9) dx f5):=by rw [qf nds.symm];exact hx5
  ext;refine .inl ⟨x,cc 9,dx,_,rfl,hy5,T.fcl,fa 4 (by decide),Yr l5 (by decide),?_⟩;have c6:L2.Same H0 (upd (upd H5 ds (.dK [])) x (.ins (cc 9) dx (qG "bases" (.ref ds) f5))):=qaH (qF c5 hds) h0x;have hx6:(upd (upd H5 ds (.dK [])) x (.ins (cc 9) dx (qG "bases" (.ref ds) f5))) x=some (.ins (cc 9) dx (qG "bases" (.ref ds) f5)):=qb;have l6:(qG "bases" (.ref ds) f5).length<=5:=hl l5;have eds6:(upd (upd H5 ds (.dK [])) x (.ins (cc 9) dx (qG "bases" (.ref ds) f5))) ds=some (.dK []):=by rw [qf nds,qb]
  have edr6:(upd (upd H5 ds (.dK [])) x (.ins (cc 9) dx (qG "bases" (.ref ds) f5))) dr=some (.dK []):=by rw [qf ndr,qf (Yn ndsdr)];exact edr5
  have eda6:(upd (upd H5 ds (.dK [])) x (.ins (cc 9) dx (qG "bases" (.ref ds) f5))) da=some (.dK []):=by rw [qf nda,qf (Yn ndsda)];exact eda5
  generalize upd (upd H5 ds (.dK [])) x (.ins (cc 9) dx (qG "bases" (.ref ds) f5))=H6 at c6 hx6 edr6 eda6 eds6 ⊢;obtain ⟨f6,hf6⟩:∃ f,f=qG "bases" (.ref ds) f5:=⟨_,rfl⟩;rw [<- hf6] at hx6 l6;ext;refine ⟨by show 0<=sizeLine;decide,fun dg hdg=>?_⟩;have ndg:dg≠x:=fun e=>by rw [e,hx6] at hdg;cases hdg
  have zdg:H0 dg=none:=c6.free hdg;have ndgdr:dg≠dr:=fun e=>by rw [e,edr6] at hdg;cases hdg
  have ndgda:dg≠da:=fun e=>by rw [e,eda6] at hdg;cases hdg
  have ndgds:dg≠ds:=fun e=>by rw [e,eds6] at hdg;cases hdg
  have hy6:upd H6 dg (.lst []) x=some (.ins (cc 9) dx f6):=by rw [qf ndg.symm];exact hx6
  ext;refine .inl ⟨x,cc 9,dx,_,rfl,hy6,T.fcl,fa 5 (by decide),Yr l6 (by decide),?_⟩;have c7:L2.Same H0 (upd (upd H6 dg (.lst [])) x (.ins (cc 9) dx (qG "rings" (.ref dg) f6))):=qaH (qF c6 hdg) h0x;have hx7:(upd (upd H6 dg (.lst [])) x (.ins (cc 9) dx (qG "rings" (.ref dg) f6))) x=some (.ins (cc 9) dx (qG "rings" (.ref dg) f6)):=qb;have l7:(qG "rings" (.ref dg) f6).length<=6:=hl l6;have edg7:(upd (upd H6 dg (.lst [])) x (.ins (cc 9) dx (qG "rings" (.ref dg) f6))) dg=some (.lst []):=by rw [qf ndg,qb]
  have edr7:(upd (upd H6 dg (.lst [])) x (.ins (cc 9) dx (qG "rings" (.ref dg) f6))) dr=some (.dK []):=by rw [qf ndr,qf (Yn ndgdr)];exact edr6
  have eda7:(upd (upd H6 dg (.lst [])) x (.ins (cc 9) dx (qG "rings" (.ref dg) f6))) da=some (.dK []):=by rw [qf nda,qf (Yn ndgda)];exact eda6
  have eds7:(upd (upd H6 dg (.lst [])) x (.ins (cc 9) dx (qG "rings" (.ref dg) f6))) ds=some (.dK []):=by rw [qf nds,qf (Yn ndgds)];exact eds6
  generalize upd (upd H6 dg (.lst [])) x (.ins (cc 9) dx (qG "rings" (.ref dg) f6))=H7 at c7 hx7 edr7 eda7 eds7 edg7 ⊢;obtain ⟨f7,hf7⟩:∃ f,f=qG "rings" (.ref dg) f6:=⟨_,rfl⟩;rw [<- hf7] at hx7 l7;ext;refine ⟨by show 0<=sizeLine;decide,fun dw hdw=>?_⟩;have ndw:dw≠x:=fun e=>by rw [e,hx7] at hdw;cases hdw
  have zdw:H0 dw=none:=c7.free hdw;have ndwdr:dw≠dr:=fun e=>by rw [e,edr7] at hdw;cases hdw
  have ndwda:dw≠da:=fun e=>by rw [e,eda7] at hdw;cases hdw
  have ndwds:dw≠ds:=fun e=>by rw [e,eds7] at hdw;cases hdw
  have ndwdg:dw≠dg:=fun e=>by rw [e,edg7] at hdw;cases hdw
  have hy7:upd H7 dw (.lst []) x=some (.ins (cc 9) dx f7):=by rw [qf ndw.symm];exact hx7
  ext;refine .inl ⟨x,cc 9,dx,_,rfl,hy7,T.fcl,fa 6 (by decide),Yr l7 (by decide),?_⟩;have c8:L2.Same H0 (upd (upd H7 dw (.lst [])) x (.ins (cc 9) dx (qG "waiting" (.ref dw) f7))):=qaH (qF c7 hdw) h0x;have hx8:(upd (upd H7 dw (.lst [])) x (.ins (cc 9) dx (qG "waiting" (.ref dw) f7))) x=some (.ins (cc 9) dx (qG "waiting" (.ref dw) f7)):=qb;have l8:(qG "waiting" (.ref dw) f7).length<=7:=hl l7;have edw8:(upd (upd H7 dw (.lst [])) x (.ins (cc 9) dx (qG "waiting" (.ref dw) f7))) dw=some (.lst []):=by rw [qf ndw,qb]
  have edr8:(upd (upd H7 dw (.lst [])) x (.ins (cc 9) dx (qG "waiting" (.ref dw) f7))) dr=some (.dK []):=by rw [qf ndr,qf (Yn ndwdr)];exact edr7
  have eda8:(upd (upd H7 dw (.lst [])) x (.ins (cc 9) dx (qG "waiting" (.ref dw) f7))) da=some (.dK []):=by rw [qf nda,qf (Yn ndwda)];exact eda7
  have eds8:(upd (upd H7 dw (.lst [])) x (.ins (cc 9) dx (qG "waiting" (.ref dw) f7))) ds=some (.dK []):=by rw [qf nds,qf (Yn ndwds)];exact eds7
  have edg8:(upd (upd H7 dw (.lst [])) x (.ins (cc 9) dx (qG "waiting" (.ref dw) f7))) dg=some (.lst []):=by rw [qf ndg,qf (Yn ndwdg)];exact edg7
  generalize upd (upd H7 dw (.lst [])) x (.ins (cc 9) dx (qG "waiting" (.ref dw) f7))=H8 at c8 hx8 edr8 eda8 eds8 edg8 edw8 ⊢;obtain ⟨f8,hf8⟩:∃ f,f=qG "waiting" (.ref dw) f7:=⟨_,rfl⟩;rw [<- hf8] at hx8 l8;ext;refine .inl ⟨x,cc 9,dx,_,rfl,hx8,T.fcl,fa 7 (by decide),Yr l8 (by decide),?_⟩;have c9:L2.Same H0 (upd H8 x (.ins (cc 9) dx (qG "longer" .non f8))):=qaH c8 h0x;have hx9:(upd H8 x (.ins (cc 9) dx (qG "longer" .non f8))) x=some (.ins (cc 9) dx (qG "longer" .non f8)):=qb;have l9:(qG "longer" .non f8).length<=8:=hl l8;have edr9:(upd H8 x (.ins (cc 9) dx (qG "longer" .non f8))) dr=some (.dK []):=by rw [qf ndr];exact edr8
  have eda9:(upd H8 x (.ins (cc 9) dx (qG "longer" .non f8))) da=some (.dK []):=by rw [qf nda];exact eda8
  have eds9:(upd H8 x (.ins (cc 9) dx (qG "longer" .non f8))) ds=some (.dK []):=by rw [qf nds];exact eds8
  have edg9:(upd H8 x (.ins (cc 9) dx (qG "longer" .non f8))) dg=some (.lst []):=by rw [qf ndg];exact edg8
  have edw9:(upd H8 x (.ins (cc 9) dx (qG "longer" .non f8))) dw=some (.lst []):=by rw [qf ndw];exact edw8
  generalize upd H8 x (.ins (cc 9) dx (qG "longer" .non f8))=H9 at c9 hx9 edr9 eda9 eds9 edg9 edw9 ⊢
  have hF:FoA (cc 9) cw H0 H9 ⟨x,b,dp,dr,da,ds,dg,dw,[]⟩ ss ns qs S0 [] [] [] .non:=by
   refine ⟨c9,?_,?_,fun c hc=>?_,?_,(fun c hc=>by cases hc),⟨dx,_,hx9,ki l9,fun _=>l9,fun f v hf=>?_,fun f hf=>?_⟩,⟨[],edr9,yh _,fun _=>rfl⟩,⟨[],eda9,⟨[],yh _,.nil,(fun u hu=>by cases hu)⟩,fun _=>rfl⟩,⟨[],eds9,yh _,(fun s hs=>by cases hs)⟩,⟨[],edg9,yh _⟩,edw9,.nil,fun v=>⟨(fun k=>by cases k),fun k=>absurd rfl k⟩,(fun v hv=>by cases hv)⟩
   ·rw [hH0];exact (keepW b2).out hx2 nbx
   ·rw [hH0];exact (zJ ndp).trans hdp
   ·simp only [Fo.six,yB,yY,YB] at hc;rcases hc with rfl | rfl | rfl | rfl | rfl | rfl<;>assumption
   ·simp [ndadr.symm,ndsdr.symm,ndgdr.symm,ndwdr.symm,ndsda.symm,ndgda.symm,ndwda.symm,ndgds.symm,ndwds.symm,ndwdg.symm]
   ·simp only [Fo.tab,yB,Xr,yY,YB] at hf;rw [hf8,hf7,hf6,hf5,hf4,hf3];rcases hf with ⟨rfl,rfl⟩ | ⟨rfl,rfl⟩ | ⟨rfl,rfl⟩ | ⟨rfl,rfl⟩ | ⟨rfl,rfl⟩ | ⟨rfl,rfl⟩ | ⟨rfl,rfl⟩ | ⟨rfl,rfl⟩<;>rfl
   ·rw [hf8,hf7,hf6,hf5,hf4,hf3];have no:∀ i,i < 8->f≠fAtt.getD i "":=fun i hi e=>hf (by rw [e,Yk,yb (show i < fAtt.length from hi)];exact Y0 _);exact lkn (no 7 (by decide)) (lkn (no 6 (by decide)) (lkn (no 5 (by decide)) (lkn (no 4 (by decide)) (lkn (no 3 (by decide)) (lkn (no 2 (by decide)) (lkn (no 1 (by decide)) (lkn (no 0 (by decide)) rfl)))))))
  ext;obtain ⟨dx',fs,hx1',_,_,_,hx2'⟩:=id hF.obj;refine ⟨x,dx',fs,rfl,hx1',hx2' _ (by decide +kernel),?_⟩;ext;refine ⟨H0,_,ss,ns,qs,B,rfl,hF,hWb,hnm,hbs,fun HA S dn wt lo hD bxA=>?_⟩;refine q H0 HA _ S dn wt lo rfl rfl hD fun c o e=>?_;have hc:c≠x:=fun z=>by rw [z] at e;unfold qe9 at e;rw [yF rfl] at e;cases e
  rw [zJ hc] at e;rw [hH0,zJ hc];exact b2 _ _ hc e
inductive spFr (cc:Nat->Addr) (cw:Addr) (vs:List V) (H:Hp) (Q:VK) (E:XK):Prop|mk (H0:Hp) (a:Fo) (ss:List Str) (ns:List Nat) (qs:List (Str×Str)) (S:FS) (dn wt:List Str) (lo:V) (A:Str->Str->Prop) (_:vs=[.ref a.x]) (_:FoD (cc 9) cw H0 H a ss ns qs S dn wt lo A) (_:(lo=.non->Q .non H)) (_:∀ (t:Addr) (r:List Str),lo=.ref t->H t=some (.lst (r.map V.str))->Aug A (pt qs) r->∀ l,H l=none->Q (.ref l) (upd H l (.lst (r.map V.str))))
inductive spFd2 (cc:Nat->Addr) (cw:Addr) (vs:List V) (H:Hp) (Q:VK) (E:XK):Prop|mk (H0:Hp) (a:Fo) (ss:List Str) (ns:List Nat) (qs:List (Str×Str)) (S:FS) (dn wt:List Str) (lo:V) (A:Str->Str->Prop) (_:vs=[.ref a.x]) (_:FoD (cc 9) cw H0 H a ss ns qs S dn wt lo A) (_:ss.length<=14) (_:(lo≠.non->Q .non H)) (_:(lo=.non->∀ (l:Addr) (H':Hp),L2.Same H H'->H l=none->H' l=some (.lst ((ss.filter fun s=>(S.rows s).isSome).map V.str))->Q (.ref l) H'))
theorem ok_fr (F:Fun K "row" "Forest.row" zr f fd) (T:Txt K mg cc cw):FnOk P w K mg base CX0 1 f fd ["self"] (spFr cc cw):=by
 refine F.ok uB fun _ _ _ _ H vs Q E hr h=>?_
 ·obtain ⟨H0,a,ss,ns,qs,S,dn,wt,lo,B,rfl,hD,q1,q2⟩:=h;refine ⟨_,(qe (qm (qdl (qo qfY (qA (K:=K) rfl (pv 0) rfl) qap (qB _)) qap (zQ (qbx (K:=K) rfl rfl) rfl T.b_list Xa (qa (qA (K:=K) rfl (pv 0) rfl) qd))))),?_⟩;ext;refine .inl (hD.fo.obj.rd T 7 rfl ?_);ext;rcases hD.en with ⟨rfl,_⟩ | ⟨t,r,rfl,et,nt,hA,_⟩
  ·refine ⟨_,rfl,zN ?_⟩;ext;exact q1 rfl
  ·refine ⟨_,rfl,qP (fun h=>by cases h) fun _=>?_⟩;ext;refine .inl (hD.fo.obj.rd T 7 rfl ?_);ext;exact .inl ⟨t,_,rfl,.inl (.of et),q2 t r rfl et hA⟩
theorem ok_fd2 (F:Fun K "reached" "Forest.reached" jj f fd) (T:Txt K mg cc cw) (kY:MethOk P w K mg base CX0 1 cw "places" ["self"] (spPls cw)):FnOk P w K mg base CX0 2 f fd ["self"] (spFd2 cc cw):=by
 refine F.ok K7 fun _ _ _ s H vs Q E hr h=>?_
 ·obtain ⟨H0,a,ss,ns,qs,S,dn,wt,lo,B,rfl,hD,h14,q1,q2⟩:=h;have hu:=jP hr;refine ⟨_,(qc (qT (qo qcY (qA (K:=K) rfl (pv 0) rfl) qap (qB _)) (qe (qm qap)) qv)
 (qe (qm (jg (sc:=qg jj) (XN:=["self"]) ["place","self"] 1 [0] rfl rfl rfl (by decide +kernel) rfl (by decide +kernel)
  (qQ (K:=K) rfl (qX kY (hmR hr) (qA (K:=K) rfl (pv 0) rfl))) (fun _ _ _ _=>(qq (i:=0) (show (["place","self"]:List Str).Nodup by decide +kernel) rfl (yE rfl))) qS
  (fun _ _ _ _=>(q9 (qo (zS (K:=K) rfl hu) (pv 0) (qA (K:=K) rfl (pv 1) rfl) (by with_unfolding_all rfl))))
  (fun _ _ _ _=>(pv 0)))))),?_⟩
  have h:=hD.fo;ext;refine .inl (h.obj.rd T 7 rfl ?_);ext;rcases hD.en with ⟨rfl,_⟩ | ⟨t,r,rfl,_⟩
  ·refine ⟨rfl,_,rfl,qP (fun h=>by simp at h) fun _=>?_⟩;have hWt:=h.web.same h.sm;obtain ⟨wx,dd,ol,nn,hb,_⟩:=id hWt;ext;refine .inl (h.obj.rd T 0 rfl ?_);refine ⟨a.b,wx,_,rfl,hb,jU (by decide +kernel),?_⟩;ext;refine ⟨a.b,ss,ns,rfl,hWt,fun pl hpl=>?_⟩;have s1:=qF (Sr H) (o:=.lst (ss.map V.str)) hpl;have e1:upd H pl (.lst (ss.map V.str)) pl=some (.lst (ss.map V.str)):=qb;generalize upd H pl (.lst (ss.map V.str))=H1 at s1 e1;have h1:=h.same s1;obtain ⟨kr,r1,r2,r3⟩:=h1.row;refine .inl ⟨⟨_,.of e1⟩,qK (xs:=ss.map V.str) (fun i ys J=>J=H1/\ys=((ss.take i).filter fun s=>(S.rows s).isSome).map V.str) ⟨rfl,rfl⟩ (fun i ys J _ hp=>by rw [hp.1];exact .of e1) (fun i y ys J hy hp=>?_) fun ys J hp=>?_⟩
   ·obtain ⟨rfl,rfl⟩:=hp;rw [yd] at hy;obtain ⟨z,hz,rfl⟩:=yn.mp hy;have hil:=(yc.mp hz).1;have hfl:=yT (fun s=>(S.rows s).isSome) (ss.take i);rw [yL] at hfl
    have estep:(ss.take (i + 1)).filter (fun s=>(S.rows s).isSome)=(ss.take i).filter (fun s=>(S.rows s).isSome)++(if (S.rows z).isSome=true then [z] else []):=by
     rw [yH,hz,yW];show _++[z].filter _=_;rw [yS,Yv]
    ext;refine .inl (h1.obj.rd T 2 rfl ?_);refine .inr (.inl ⟨a.dr,_,rfl,DGet.k (k:=Sum.inr z) r1,?_⟩);have hrz:=r3 z
    have esm:(jS kr (.inr z:Key)).isSome=(S.rows z).isSome:=by
     cases e:S.rows z with
     | none=>rw [e] at hrz;rw [show jS kr (.inr z:Key)=none from hrz];rfl
     | some r=>rw [e] at hrz;obtain ⟨t,k,_⟩:=hrz;rw [k];rfl
    rw [yC (by decide),esm,estep];refine ⟨_,rfl,?_⟩
    cases (S.rows z).isSome with
    | true =>
     refine zN ?_;rw [yF rfl];ext;exact ⟨by rw [ya];exact qi (by omega),rfl,by rw [yu];rfl⟩
    | false =>
     refine yq ?_;rw [yC (by decide),Yi];exact ⟨rfl,rfl⟩
   ·obtain ⟨rfl,rfl⟩:=hp;rw [show (ss.map V.str).length=ss.length from ya _,yM];have hfl:=yT (fun s=>(S.rows s).isSome) ss;refine ⟨by rw [ya];exact yX (qi (by omega)),fun l hl=>?_⟩;exact q2 rfl l _ (qF s1 hl) (s1.free hl) qb
  ·refine ⟨rfl,_,rfl,zN ?_⟩;ext;exact q1 (fun e=>by cases e)
theorem K0:FnScope ["web","pairs","partners"] ["web","pairs"] (qg jV):=fS
theorem Ko:FnScope ["web","thing","seen","place"] ["web","thing"] (qg jh):=fS
theorem eqv_str (a b:Str):eqV (.str a) (.str b)=decide (a=b):=by
 unfold eqV;by_cases h:a=b<;>simp [h]
theorem vEqS {i j:Str} {Q:VK} (q:Q (.bl (decide (i=j))) H):qfO K (.str i) (.str j) H Q:=.inl (.inl (.inl ⟨rfl,rfl,by rw [yC (by decide),eqv_str];exact q⟩))
noncomputable def qbC (dps qs:List (Str×Str)):List (Str×Str):=dps.filter fun q=>decide (pt qs q.1=some q.2)
inductive spTp (cw:Addr) (vs:List V) (H:Hp) (Q:VK) (E:XK):Prop|mk (x l:Addr) (ss:List Str) (ns:List Nat) (us:List Addr) (tps qs:List (Str×Str)) (_:vs=[.ref x,.ref l]) (_:WebAt cw H x ss ns) (_:Adj ss ns tps) (_:PL H l us qs) (_:PGo ss tps qs) (_:∀ (l:Addr) (ls:List Addr) (H':Hp),L2.Same H H'->H l=none->H' l=some (.lst (ls.map V.ref))->ls.length<=196->All2 (PrAt H H' l) ls (qbC (qR ss ns ss.length) qs)->Q (.ref l) H')
noncomputable def stp (rs:List Str):List (Str×Str):=rs.zip rs.tail
noncomputable def prB (qs:List (Str×Str)) (ab:Str×Str):Bool:=decide (pt qs ab.1=some ab.2)
theorem stp_at:(stp rs)[j]?=some ab↔rs[j]?=some ab.1/\rs[j + 1]?=some ab.2:=by
 unfold stp;rw [List.getElem?_zip_eq_some,xY]
theorem qas (rs:List Str):(stp rs).length=rs.length - 1:=by unfold stp;rw [List.length_zip,xT];omega
structure RowG (ss:List Str) (tps qs:List (Str×Str)) (rs:List Str):Prop where
 nd:rs.Nodup
 two:2<=rs.length
 few:rs.length<=1000
 inn:∀ r∈rs,r∈ss
 tie:∀ (j:Nat) ab,(stp rs)[j]?=some ab->(ab∈tps\/(ab.2,ab.1)∈tps)/\prB qs ab=decide (j % 2=1)
 hd:∀ s,rs[0]?=some s->pt qs s=none
 tl:∀ s,rs[rs.length - 1]?=some s->pt qs s=none
structure Rw (cw:Addr) (H:Hp) (x l a:Addr) (ss:List Str) (ns:List Nat) (us:List Addr) (tps qs:List (Str×Str)) (rs:List Str):Prop where
 web:WebAt cw H x ss ns
 adj:Adj ss ns tps
 prs:PL H l us qs
 pgo:PGo ss tps qs
 row:H a=some (.lst (rs.map V.str))
 rok:RowG ss tps qs rs
theorem Rw.same {a:Addr} (h:Rw cw H x l a ss ns us tps qs rs) (s:L2.Same H H'):Rw cw H' x l a ss ns us tps qs rs:=
 ⟨h.web.same s,h.adj,h.prs.same s,h.pgo,s _ _ h.row,h.rok⟩
inductive spUl (cw:Addr) (vs:List V) (H:Hp) (Q:VK) (E:XK):Prop|mk (x a:Addr) (ss:List Str) (ns:List Nat) (rs:List Str) (_:vs=[.ref x,.ref a]) (_:WebAt cw H x ss ns) (_:H a=some (.lst (rs.map V.str))) (_:rs.Nodup) (_:rs.length<=1000) (_:(∀ r∈rs,r∈ss)) (_:∀ H',L2.Same H H'->Q (.bl true) H')
inductive spGt (cw:Addr) (vs:List V) (H:Hp) (Q:VK) (E:XK):Prop|mk (x l d a:Addr) (ss:List Str) (ns:List Nat) (us:List Addr) (tps qs:List (Str×Str)) (rs:List Str) (_:vs=[.ref x,.ref d,.ref a]) (_:Rw cw H x l a ss ns us tps qs rs) (_:H d=some (.dK (prK qs))) (_:∀ H',L2.Same H H'->Q (.bl true) H')
inductive spIr (cw:Addr) (vs:List V) (H:Hp) (Q:VK) (E:XK):Prop|mk (x l a:Addr) (ss:List Str) (ns:List Nat) (us:List Addr) (tps qs:List (Str×Str)) (rs:List Str) (_:vs=[.ref x,.ref l,.ref a]) (_:Rw cw H x l a ss ns us tps qs rs) (_:∀ H',L2.Same H H'->Q (.bl true) H')
theorem qfa {Q:VK} (q:Q (.bl (decide (pt qs s=some t))) H):qfO K (((pt qs s).map V.str).getD .non) (.str t) H Q:=by
 cases e:pt qs s with
 | none=>rw [e] at q;exact .inl (.inl (.inl ⟨rfl,rfl,q⟩))
 | some u =>
  refine vEqS ?_;rw [e] at q
  rwa [show decide (u=t)=decide (some u=some t) from Yp.mpr ⟨congrArg some,ym⟩]
theorem ok_tp (F:Fun K "told_pairs" "told_pairs" jV f fd) (T:Txt K mg cc cw) (kX:DefOk P w K mg base CX0 9 "partners_in" ["web","pairs"] (spPn cw)) (Kx:MethOk P w K mg base CX0 7 cw "ties" ["self"] (spTs cw)):FnOk P w K mg base CX0 10 f fd ["web","pairs"] (spTp cw):=by
 refine F.ok K0 fun _ _ _ _ H vs Q E hr h=>?_
 ·obtain ⟨x,pl,ss,ns,ps,tps,qs,rfl,hW,hA,hP,hG,q⟩:=h;have hu:=jP hr;obtain ⟨wx,dd,ol,nn,hb,_⟩:=id hW;refine ⟨_,(qc (qj (i:=2) K0.nd rfl (Xw rfl) (qk kX (hmR hr) qw (qa (pv 0) (qa (pv 1) qd))))
 (qe (qm (jg (sc:=qg jV) (XN:=["web","pairs","partners"]) ["tie","partners"] 1 [2] rfl rfl rfl (by decide +kernel) rfl (by decide +kernel)
  (qQ (K:=K) rfl (qX Kx (hmR hr) (pv 0))) (fun _ _ _ _=>(qq (i:=0) (show (["tie","partners"]:List Str).Nodup by decide +kernel) rfl (yE rfl))) qS
  (fun _ _ _ _=>(q9 (qo (zO (K:=K) rfl hu) (qaA (qfB hu) (pv 1) (qr (qt (K:=K) rfl hu) (pv 0) qh (fun _ _=>rfl)) ⟨rfl,rfl,rfl,rfl⟩) (qr (qt (K:=K) rfl hu) (pv 0) qh (fun _ _=>rfl)) (qB _))))
  (fun _ _ _ _=>(pv 0)))))),?_⟩
  ext;refine ⟨x,pl,ss,ns,ps,tps,qs,rfl,hW,hA,hP,hG,fun d H1 s1 hd0 hd=>?_⟩;ext;refine ⟨x,wx,_,rfl,s1 _ _ hb,jU (by decide +kernel),?_⟩;ext;refine ⟨x,ss,ns,rfl,hW.same s1,fun l ts H2 s2 hl0 hl hl196 hAl=>?_⟩;have hd2:=s2 _ _ hd;have s02:=s1.trans s2;refine .inl ⟨⟨_,.of hl⟩,qK (xs:=ts.map V.ref) (fun i ys G=>G=H2/\∃ us:List Addr,ys=us.map V.ref/\us.length<=i/\All2 (fun t ab=>H1 t=none/\H2 t=some (.tup [.str ab.1,.str ab.2])) us (qbC ((qR ss ns ss.length).take i) qs)) ⟨rfl,[],rfl,yh _,.nil⟩ (fun i ys G _ hp'=>by rw [hp'.1];exact .of hl) (fun i y ys G hy hp'=>?_) fun ys G hp'=>?_⟩
  ·obtain ⟨rfl,us,rfl,hul,hU⟩:=hp';rw [yd] at hy;obtain ⟨t,ht,rfl⟩:=yn.mp hy;have hi:i < ts.length:=(yc.mp ht).1;obtain ⟨ab,hab⟩:∃ ab,(qR ss ns ss.length)[i]?=some ab:=⟨_,yb (by rw [<- hAl.len];exact hi)⟩;obtain ⟨z1,z2,z3⟩:=hAl.at_ i t ab ht hab
   have hstep:qbC ((qR ss ns ss.length).take (i + 1)) qs=qbC ((qR ss ns ss.length).take i) qs++(if pt qs ab.1=some ab.2 then [ab] else []):=by
    unfold qbC;rw [yH,hab,yW];show _++[ab].filter _=_;rw [yS];simp only [km,Yv]
   ext;refine qcE ?_;ext;refine ⟨d,rfl,.inl ⟨_,.inl hd2⟩,?_⟩;ext;refine .inl (qat z3 (v:=.str ab.1) (qy (j:=0) rfl) ?_);refine ⟨_,DGet.k (k:=Sum.inr ab.1) hd2,?_⟩;rw [jD];ext;refine .inl (qat z3 (v:=.str ab.2) (qy (j:=1) rfl) ?_);refine qfa ?_;ext;rw [hstep];refine qP (fun ho=>?_) (fun ho=>?_)
   ·rw [yF (yk ho)];ext;exact ⟨by rw [ya];exact qi (by omega),rfl,us++[t],by rw [yu];rfl,by rw [yt];simp;omega,hU.snoc ⟨z1,z3⟩⟩
   ·rw [yC (fun e=>ho (yG e)),Yi];exact ⟨rfl,us,rfl,by omega,hU⟩
  ·obtain ⟨rfl,us,rfl,hul,hU⟩:=hp';have e:(ts.map V.ref).length=(qR ss ns ss.length).length:=by rw [ya,hAl.len]
   rw [e,yM] at hU;rw [ya] at hul;refine ⟨by rw [ya];exact yX (qi (by omega)),fun g hg=>?_⟩;have s3:=qF s02 (o:=.lst (us.map V.ref)) hg;exact q g us _ s3 (s02.free hg) qb (by omega) (hU.mono fun t ab z=>⟨s1.free z.1,(fun e=>by rw [e,hg] at z;cases z.2),by rw [qf (fun e=>by rw [e,hg] at z;cases z.2)];exact z.2⟩)
theorem ok_ul (F:Fun K "are_unlike_places" "are_unlike_places" jh f fd) (T:Txt K mg cc cw) (Kv:MethOk P w K mg base CX0 3 cw "has_place" ["self","thing"] (spHas cw)):FnOk P w K mg base CX0 4 f fd ["web","thing"] (spUl cw):=by
 refine F.ok Ko fun _ _ _ _ H vs Q E hr h=>?_
 ·obtain ⟨x,a,ss,ns,rs,rfl,hW,ha,hnd,hl,hin,q⟩:=h;have hu:=jP hr;refine ⟨_,(qc (qT (je (qZ (qp (qbT (K:=K) rfl) rfl T.b_isinstance YT (qa (pv 1) (qa (jX (v:=.ty "list") rfl T.b_list Xa rfl) qd))))) (qe (qm za)) qv)
 (qc (qj (i:=2) Ko.nd rfl (yE rfl) jZ)
 (qc (ji yV rfl (qQ (K:=K) rfl (pv 1)) (qq (i:=3) Ko.nd rfl (yE rfl))
 (qc (qT (PW.pt (qbI (je (qZ (qE Kv (hmR hr) (pv 0) (qa (pv 3) qd)))) (qax (qo (zS (K:=K) rfl hu) (pv 3) (pv 2) (by with_unfolding_all rfl))))) (qe (qm za)) qv)
 (qe (jK za (jJ (pv 2) (pv 3) (jL hu))))))
 (qe (qm za))))),?_⟩
  ext;refine qdS (.inl (.lst ha)) rfl (qaX K "list" (by simp) "list" (by simp)) ?_;ext;refine yq ?_;ext;intro d hd;have s1:=qF (Sr H) (o:=.dK []) hd;have ed:upd H d (.dK []) d=some (.dK (qb8 [])):=qb;generalize upd H d (.dK [])=H1 at s1 ed;obtain ⟨wx,dd,ol,nn,hb,_⟩:=id hW;ext;refine .inl ⟨⟨_,.of (s1 _ _ ha)⟩,qV (xs:=rs.map V.str) (fun i σ J=>L2.Same H J/\∃ y3,σ=[some (.ref x),some (.ref a),some (.ref d),y3]/\J d=some (.dK (qb8 (rs.take i)))) ⟨s1,_,rfl,ed⟩ (fun i σ J _ hp=>.of (hp.1 _ _ ha)) (fun i y σ J hy hp=>?_) fun σ J hp=>?_⟩
  ·obtain ⟨sJ,y3,rfl,edJ⟩:=hp;rw [yd] at hy;obtain ⟨z,hz,rfl⟩:=yn.mp hy;have hil:i < rs.length:=(yc.mp hz).1;have htk:rs.take (i + 1)=rs.take i++[z]:=by rw [yH,hz];rfl
   have hm:z∉rs.take i:=fun y=>by
    have h3:(rs.take (i + 1)).Nodup:=hnd.sublist (Xy _ _);rw [htk] at h3;exact (Yg.mp h3).2.2 _ y z (by simp) rfl
   ext;refine ⟨x,wx,_,rfl,sJ _ _ hb,jU (by decide +kernel),?_⟩;ext;refine ⟨x,ss,ns,z,rfl,hW.same sJ,hin z (ye hz),fun J2 s2=>?_⟩;ext;refine yq ?_;ext;refine .inr (.inl ⟨d,_,rfl,DGet.k (k:=Sum.inr z) (s2 _ _ edJ),?_⟩);rw [yC (by decide),zV,yl hm];ext;refine yq ?_;ext;refine .inr ⟨d,_,rfl,DPut.k (k:=Sum.inr z) (s2 _ _ edJ) (qi (by unfold qb8;rw [ya,yL];omega)),?_⟩;refine ⟨qaH (sJ.trans s2) hd,_,rfl,?_⟩;rw [qb,qb9 hm,htk]
  ·obtain ⟨sJ,y3,rfl,edJ⟩:=hp;ext;exact q J sJ
theorem uv:FnScope ["web","pairs","thing","partners"] ["web","pairs","thing"] (qg qa9):=fS
theorem Kt:FnScope ["web","partners","names","steps","paired"] ["web","partners","names"] (qg qU):=fS
theorem KF:FnScope ["web","pairs","thing","partners","first","last"] ["web","pairs","thing"] (qg qal):=fS
theorem qba (rs:List V):qb0 rs (some 1) none=rs.tail:=by
 have:=qaF rs 1
 rwa [List.drop_one] at this
theorem qfH:∀ {bs:List Bool},(∀ b∈bs,b=true)->bs.all id=true:=fun h=>YW.mpr h
theorem qei {xs ys:List Str} (Z:Zl H H' l ts (xs.map V.str) (ys.map V.str)) (hl:qs.length=min xs.length ys.length) (h:∀ (j:Nat) q,qs[j]?=some q->xs[j]?=some q.1/\ys[j]?=some q.2):All2 (fun t ab=>H' t=some (.tup [.str ab.1,.str ab.2])) ts qs:=by
 refine ⟨by rw [Z.len,ya,ya,hl],fun j t ab ht hab=>?_⟩;obtain ⟨e1,e2⟩:=h j ab hab;obtain ⟨_,u,v,hu',hv',e⟩:=Z.tp j t ht;rw [yd,e1] at hu';rw [yd,e2] at hv';cases hu';cases hv';exact e
theorem atI_back {xs:List α} {v:α} (h0:1<=j) (h1:j<=xs.length) (h:xs[xs.length - j]?=some v):atI xs (-(j:Int))=some v:=by
 have e:ixN xs.length (-(j:Int))=some (xs.length - j):=by
  unfold ixN;rw [yC (by omega),yF (by omega)]
  congr 1
  omega
 unfold atI;rw [e];exact h
theorem ok_gt (F:Fun K "goes_by_turns" "goes_by_turns" qU f fd) (T:Txt K mg cc cw) (KI:MethOk P w K mg base CX0 7 cw "has_tie" ["self","thing"] (spHt cw)):FnOk P w K mg base CX0 8 f fd ["web","partners","names"] (spGt cw):=by
 refine F.ok Kt fun _ _ _ _ H vs Q E hr h=>?_
 ·obtain ⟨x,l,d,a,ss,ns,us,tps,qs,rs,rfl,R,hd,q⟩:=h;have hu:=jP hr;obtain ⟨wx,dd,ol,nn,hb,_⟩:=id R.web;have ha:=R.row;have RG:=R.rok;have hl:=RG.few;refine ⟨_,(qc (qj (i:=3) Kt.nd rfl (yE rfl) (qc6 (K:=K) rfl rfl rfl rfl T.b_list T.b_zip (qa (pv 2) (qa (jf (qc2 (K:=K) rfl) (pv 2) (jk qh) jz) qd))))
 (qc (qT (je (qZ (qp (qe6 (K:=K) rfl rfl) rfl T.b_all boot_all (qa (jg (sc:=qg qU) (XN:=["web","partners","names","steps","paired"]) ["step","web"] 1 [0] rfl rfl rfl (by decide +kernel) rfl (by decide +kernel)
  (qQ (K:=K) rfl (pv 3)) (fun _ _ _ _=>(qq (i:=0) (show (["step","web"]:List Str).Nodup by decide +kernel) rfl (yE rfl))) qS
  (fun _ _ _ _=>j0)
  (fun _ _ _ _=>(qE KI (hmR hr) (pv 1) (qa (pv 0) qd)))) qd)))) (qe (qm za)) qv)
 (qc (qaV (sc:=qg qU) (XN:=["web","partners","names","steps","paired"]) ["step","partners"] 1 [1] rfl rfl rfl (by decide +kernel) rfl (by decide +kernel) (i:=4) Kt.nd rfl rfl
  (qQ (K:=K) rfl (pv 3)) (fun _ _ _ _=>(qq (i:=0) (show (["step","partners"]:List Str).Nodup by decide +kernel) rfl (yE rfl))) qS
  (fun _ _ _ _=>j0)
  (fun _ _ _ _=>(jM (zO (K:=K) rfl hu) (qaA (qfB hu) (pv 1) (qr (qt (K:=K) rfl hu) (pv 0) qh (fun _ _=>rfl)) ⟨rfl,rfl,rfl,rfl⟩) (qr (qt (K:=K) rfl hu) (pv 0) qh (fun _ _=>rfl)) (qB _))))
 (qe (qm (qp (qe6 (K:=K) rfl rfl) rfl T.b_all boot_all (qa (jg (sc:=qg qU) (XN:=["web","partners","names","steps","paired"]) ["one","other"] 2 [] rfl rfl rfl (by decide +kernel) rfl (by decide +kernel)
  (pi_zip (K:=K) rfl rfl T.b_zip (qa (pv 4) (qa (jf (qc2 (K:=K) rfl) (pv 4) (jk qh) jz) qd))) (fun _ _ _ _=>(qbM (n:=2) rfl (jw (qq (i:=0) (show (["one","other"]:List Str).Nodup by decide +kernel) rfl (yE rfl)) (jw (qq (i:=1) (show (["one","other"]:List Str).Nodup by decide +kernel) rfl (yE rfl)) qaT)))) gk_two
  (fun _ _ _ _=>j0)
  (fun _ _ _ _=>(jM (qa4 (K:=K) rfl hu) (pv 0) (pv 1) (qB _)))) qd))))))),?_⟩
  ext;refine vLZ ?_;ext;refine .inl ⟨a,_,rfl,SqL.of ha,fun c hc=>?_⟩;rw [qba,<- kx];have s1:=qF (Sr H) (o:=.lst (rs.tail.map V.str)) hc;have hc1:upd H c (.lst (rs.tail.map V.str)) c=some (.lst (rs.tail.map V.str)):=qb;generalize upd H c (.lst (rs.tail.map V.str))=H1 at s1 hc1;ext;refine ⟨a,c,_,_,rfl,SqL.of (s1 _ _ ha),SqL.of hc1,by rw [ya];exact hl,fun l ts H2 Z=>?_⟩;have s02:=s1.trans Z.sm;have hll:(stp rs).length<=1000:=by rw [qas];omega
  have hAl:=qei (qs:=stp rs) Z (by rw [qas,xT];omega) fun j q e=>by
   obtain ⟨z1,z2⟩:=stp_at.mp e;exact ⟨z1,by rw [xY];exact z2⟩
  have tl:=hAl.len;have hls:=Z.ls
  have stn:∀ {i:Nat} {y:V},(ts.map V.ref)[i]?=some y->∃ t ab,y=.ref t/\(stp rs)[i]?=some ab/\H2 t=some (.tup [.str ab.1,.str ab.2]):=fun {i y} hy=>by
   rw [yd] at hy;obtain ⟨t,ht,rfl⟩:=yn.mp hy;obtain ⟨ab,hab⟩:∃ ab,(stp rs)[i]?=some ab:=⟨_,yb (by rw [<- tl];exact (yc.mp ht).1)⟩;exact ⟨t,ab,rfl,hab,hAl.at_ i t ab ht hab⟩
  ext;refine .inl ⟨⟨_,.of hls⟩,qK (xs:=ts.map V.ref) (fun i ys G=>L2.Same H2 G/\ys=(((stp rs).take i).map fun _=>true).map V.bl) ⟨L2.Same.refl H2,rfl⟩ (fun i ys G _ hp'=>.of (hp'.1 _ _ hls)) (fun i y ys G hy hp'=>?_) fun ys G hp'=>?_⟩
  ·obtain ⟨sG,rfl⟩:=hp';obtain ⟨t,ab,rfl,hab,et⟩:=stn hy;obtain ⟨e1,e2⟩:=stp_at.mp hab;ext;refine zN ?_;ext;refine ⟨x,wx,_,rfl,(s02.trans sG) _ _ hb,jU (by decide +kernel),?_⟩;ext;refine ⟨x,t,ss,ns,tps,ab,rfl,R.web.same (s02.trans sG),R.adj,sG _ _ et,(RG.tie i ab hab).1,RG.inn _ (ye e1),RG.inn _ (ye e2),fun z=>?_,fun G2 sG2=>?_⟩
   ·rw [<- z] at e2;exact absurd (qz RG.nd e1 e2) (by omega)
   ·refine ⟨by rw [ya,ya,yL];exact qi (by omega),sG.trans sG2,?_⟩;rw [yH,hab,yu,yu];rfl
  ·obtain ⟨sG,rfl⟩:=hp';rw [show (ts.map V.ref).length=(stp rs).length by rw [ya,tl],yM];refine ⟨by rw [ya,ya];exact yX (qi (by omega)),fun g hg=>?_⟩;have s3:=qF sG (o:=.lst (((stp rs).map fun _=>true).map V.bl)) hg;have eg:upd G g (.lst (((stp rs).map fun _=>true).map V.bl)) g=some (.lst (((stp rs).map fun _=>true).map V.bl)):=qb;generalize upd G g (.lst (((stp rs).map fun _=>true).map V.bl))=G3 at s3 eg;ext;refine ⟨g,_,rfl,SqL.of eg,_,rfl,?_⟩;rw [qfH (fun b hb=>by obtain ⟨_,_,rfl⟩:=yQ.mp hb;rfl)];have s03:=s02.trans s3;refine yq ?_;have hls3:=s3 _ _ hls;have hd3:=s03 _ _ hd;ext;refine .inl ⟨⟨_,.of hls3⟩,qK (xs:=ts.map V.ref) (fun i ys G=>G=G3/\ys=(((stp rs).take i).map (prB qs)).map V.bl) ⟨rfl,rfl⟩ (fun i ys G _ hp'=>by rw [hp'.1];exact .of hls3) (fun i y ys G hy hp'=>?_) fun ys G hp'=>?_⟩
   ·obtain ⟨rfl,rfl⟩:=hp';obtain ⟨t,ab,rfl,hab,et⟩:=stn hy;have et:=s3 _ _ et;ext;refine zN ?_;ext;refine qcE ?_;ext;refine ⟨d,rfl,.inl ⟨_,.inl hd3⟩,?_⟩;ext;refine .inl (qat et (v:=.str ab.1) (qy (j:=0) rfl) ?_);refine ⟨_,DGet.k (k:=Sum.inr ab.1) hd3,?_⟩;rw [jD];ext;refine .inl (qat et (v:=.str ab.2) (qy (j:=1) rfl) ?_);refine qfa ?_;refine ⟨by rw [ya,ya,yL];exact qi (by omega),rfl,?_⟩;rw [yH,hab,yu,yu];rfl
   ·obtain ⟨rfl,rfl⟩:=hp';rw [show (ts.map V.ref).length=(stp rs).length by rw [ya,tl],yM];refine ⟨by rw [ya,ya];exact yX (qi (by omega)),fun b hb9=>?_⟩;obtain ⟨bs,hbs⟩:∃ bs,bs=(stp rs).map (prB qs):=⟨_,rfl⟩;rw [<- hbs];have hbl:bs.length<=1000:=by rw [hbs,ya];exact hll
    have hbd:∀ (i:Nat) b,bs[i]?=some b->b=decide (i % 2=1):=fun i b e=>by
     rw [hbs,yd] at e;obtain ⟨ab,hab,rfl⟩:=yn.mp e;exact (RG.tie i ab hab).2
    have s4:=qF s03 (o:=.lst (bs.map V.bl)) hb9;have eb:upd G b (.lst (bs.map V.bl)) b=some (.lst (bs.map V.bl)):=qb;generalize upd G b (.lst (bs.map V.bl))=G4 at s4 eb;ext;refine vZip ?_;ext;refine .inl ⟨b,_,rfl,SqL.of eb,fun c2 hc2=>?_⟩;rw [qba,<- kx];have s5:=qF s4 (o:=.lst (bs.tail.map V.bl)) hc2;have eb5:=qF (Sr G4) (o:=.lst (bs.tail.map V.bl)) hc2 _ _ eb;have ec5:upd G4 c2 (.lst (bs.tail.map V.bl)) c2=some (.lst (bs.tail.map V.bl)):=qb;generalize upd G4 c2 (.lst (bs.tail.map V.bl))=G5 at s5 eb5 ec5;ext;refine ⟨b,c2,_,_,rfl,SqL.of eb5,SqL.of ec5,comp_zip (xs:=bs.map V.bl) (ys:=bs.tail.map V.bl) (by simp) (fun i zs J=>L2.Same G5 J/\zs=(List.replicate i true).map V.bl) ⟨L2.Same.refl G5,rfl⟩ (fun i zs J _ hp'=>⟨SqL.of (hp'.1 _ _ eb5),SqL.of (hp'.1 _ _ ec5)⟩) (fun i u v t zs J hu1 hv1 ht hp'=>?_) fun zs J hp'=>?_⟩
    ·obtain ⟨sJ,rfl⟩:=hp';rw [yd] at hu1 hv1;obtain ⟨u,hu2,rfl⟩:=yn.mp hu1;obtain ⟨v,hv2,rfl⟩:=yn.mp hv1;clear hu1 hv1;have hil:=(yc.mp hu2).1;rw [xY] at hv2;have e1:=hbd _ _ hu2;have e2:=hbd _ _ hv2;have sJ3:=qF sJ (o:=.tup [.bl u,.bl v]) ht;refine ⟨t,_,rfl,.of qb,rfl,_,_,rfl,_,_,rfl,rfl,?_⟩;generalize upd J t (.tup [.bl u,.bl v])=J3 at sJ3;ext;refine zN ?_;ext;refine .inl ⟨rfl,rfl,?_⟩;refine ⟨by rw [ya,YD];exact qi (by omega),sJ3,?_⟩
     have hne:v=!u:=by
      rw [e1,e2];rcases Xj i with z | z
      ·rw [z,yG (by omega)];rfl
      ·rw [z,yl (by omega)];rfl
     rw [List.replicate_succ',yu,hne];cases u<;>rfl
    ·obtain ⟨sJ,rfl⟩:=hp';rw [show (bs.tail.map V.bl).length=bs.length - 1 by rw [ya,xT]];refine ⟨by rw [ya,YD];exact yX (qi (by omega)),fun e he=>?_⟩;have s6:=qF (s5.trans sJ) (o:=.lst ((List.replicate (bs.length - 1) true).map V.bl)) he;have ee:upd J e (.lst ((List.replicate (bs.length - 1) true).map V.bl)) e=some (.lst ((List.replicate (bs.length - 1) true).map V.bl)):=qb;generalize upd J e (.lst ((List.replicate (bs.length - 1) true).map V.bl))=J6 at s6 ee;ext;refine ⟨e,_,rfl,SqL.of ee,?_⟩;rw [qfH (fun b hb=>(List.mem_replicate.mp hb).2)];exact q J6 s6
theorem ok_ir (F:Fun K "is_row" "is_row" qa9 f fd) (T:Txt K mg cc cw) (kX:DefOk P w K mg base CX0 9 "partners_in" ["web","pairs"] (spPn cw)) (k9:DefOk P w K mg base CX0 4 "are_unlike_places" ["web","thing"] (spUl cw)) (ug:DefOk P w K mg base CX0 8 "goes_by_turns" ["web","partners","names"] (spGt cw)):FnOk P w K mg base CX0 10 f fd ["web","pairs","thing"] (spIr cw):=by
 refine F.ok uv fun _ _ _ _ H vs Q E hr h=>?_
 ·obtain ⟨x,l,a,ss,ns,us,tps,qs,rs,rfl,R,q⟩:=h;have hu:=jP hr;have G:=R.rok;have h2:=G.two;refine ⟨_,(qc (qj (i:=3) uv.nd rfl (yE rfl) (qk kX (hmR hr) qw (qa (pv 0) (qa (pv 1) qd))))
 (qc (qT (PW.pt (qbI (je (qZ (qk k9 (hmR hr) qw (qa (pv 0) (qa (pv 2) qd))))) (qax (qo qcX (qp (jI (K:=K) rfl) rfl T.b_len YA (qa (pv 2) qd)) qh (qB _))))) (qe (qm za)) qv)
 (qe (qm (qk ug (hmR hr) qw (qa (pv 0) (qa (pv 3) (qa (pv 2) qd)))))))),?_⟩
  ext;refine ⟨x,l,ss,ns,us,tps,qs,rfl,R.web,R.adj,R.prs,R.pgo,fun d H1 s1 hd0 hd=>?_⟩;ext;refine ⟨x,a,ss,ns,rs,rfl,R.web.same s1,s1 _ _ R.row,G.nd,G.few,G.inn,fun H2 s2=>?_⟩;have s02:=s1.trans s2;ext;refine yq ?_;ext;refine .inl ⟨_,.inl (SqL.of (s02 _ _ R.row)),?_⟩;rw [ya];ext;refine qP (fun h=>absurd (yk h) (by omega)) fun _=>?_;ext;exact ⟨x,l,d,a,ss,ns,us,tps,qs,rs,rfl,R.same s02,s2 _ _ hd,fun H3 s3=>q H3 (s02.trans s3)⟩
theorem qeS {t:Addr} {n:Str} {Q:VK} (e:H t=some (.tup [.non,.str n])) (q:Q (.bl true) H):qev K false .non (.ref t) H Q:=
 .inl ⟨t,_,rfl,.inr (SqT.of e),rfl,rfl,q⟩
theorem ok_ct (F:Fun K "can_turn" "can_turn" qal f fd) (T:Txt K mg cc cw) (kX:DefOk P w K mg base CX0 9 "partners_in" ["web","pairs"] (spPn cw)) (Ue:DefOk P w K mg base CX0 10 "is_row" ["web","pairs","thing"] (spIr cw)):FnOk P w K mg base CX0 11 f fd ["web","pairs","thing"] (spIr cw):=by
 refine F.ok KF fun _ _ _ _ H vs Q E hr h=>?_
 ·obtain ⟨x,l,a,ss,ns,us,tps,qs,rs,rfl,R,q⟩:=h;have hu:=jP hr;have G:=R.rok;have h2:=G.two;refine ⟨_,(qc (qT (je (qZ (qk Ue (hmR hr) qw (qa (pv 0) (qa (pv 1) (qa (pv 2) qd)))))) (qe (qm za)) qv)
 (qc (qj (i:=3) KF.nd rfl (yE rfl) (qk kX (hmR hr) qw (qa (pv 0) (qa (pv 1) qd))))
 (qc (qj (i:=4) KF.nd rfl (yE rfl) (qaA (qfB hu) (pv 3) (qr (qt (K:=K) rfl hu) (pv 2) qh (fun _ _=>rfl)) ⟨rfl,rfl,rfl,rfl⟩))
 (qc (qj (i:=5) KF.nd rfl (yE rfl) (qaA (qfB hu) (pv 3) (qr (qt (K:=K) rfl hu) (pv 2) (qbk qay qh) (fun _ _=>rfl)) ⟨rfl,rfl,rfl,rfl⟩))
 (qe (qm (qcj (jM (zS (K:=K) rfl hu) (pv 4) (jA (qa qap (qa (qr (qt (K:=K) rfl hu) (pv 2) qh (fun _ _=>rfl)) qd))) (by with_unfolding_all rfl)) (qbL (jM (zS (K:=K) rfl hu) (pv 5) (jA (qa qap (qa (qr (qt (K:=K) rfl hu) (pv 2) (qbk qay qh) (fun _ _=>rfl)) qd))) (by with_unfolding_all rfl)))))))))),?_⟩
  ext;refine ⟨x,l,a,ss,ns,us,tps,qs,rs,rfl,R,fun H1 s1=>?_⟩;refine ⟨_,rfl,qP (fun h=>by cases h) fun _=>?_⟩;ext;refine ⟨x,l,ss,ns,us,tps,qs,rfl,R.web.same s1,R.adj,R.prs.same s1,R.pgo,fun d H2 s2 hd0 hd=>?_⟩;obtain ⟨n0,g0⟩:∃ n0,rs[0]?=some n0:=⟨_,yb (by omega)⟩;obtain ⟨n1,g1⟩:∃ n1,rs[1]?=some n1:=⟨_,yb (by omega)⟩;obtain ⟨m0,k0⟩:∃ m0,rs[rs.length - 1]?=some m0:=⟨_,yb (by omega)⟩;obtain ⟨m1,k1⟩:∃ m1,rs[rs.length - 2]?=some m1:=⟨_,yb (by omega)⟩;have s02:=s1.trans s2;have ha:=R.row;have ha2:=s02 _ _ ha;have at_:∀ {j:Nat} {n:Str},rs[j]?=some n->(rs.map V.str)[j]?=some (.str n):=fun e=>by rw [yd,e];rfl
  have back:∀ {j:Nat} {n:Str},1<=j->j<=rs.length->rs[rs.length - j]?=some n->atI (rs.map V.str) (-(j:Int))=some (.str n):=fun l1 l2 e=>atI_back l1 (by rw [ya];exact l2) (by rw [ya];exact at_ e);ext;refine qcE ?_;ext;refine ⟨d,rfl,.inl ⟨_,.inl hd⟩,?_⟩;ext;refine .inl (qae ha2 (v:=.str n0) (qy (j:=0) (at_ g0)) ?_);refine ⟨_,DGet.k (k:=Sum.inr n0) hd,?_⟩;rw [jD,G.hd _ g0];ext;refine qcE ?_;ext;refine ⟨d,rfl,.inl ⟨_,.inl hd⟩,?_⟩;ext;refine ⟨1,rfl,?_⟩;refine .inl (qae ha2 (v:=.str m0) (back (j:=1) (by decide) (by omega) k0) ?_);refine ⟨_,DGet.k (k:=Sum.inr m0) hd,?_⟩;rw [jD,G.tl _ k0];ext;refine .inl (qae ha2 (v:=.str n1) (qy (j:=1) (at_ g1)) ?_);ext;refine ⟨by show 2<=sizeLine;decide,fun t ht=>qeS qb ?_⟩;have s3:=qF s02 (o:=.tup [.non,.str n1]) ht;generalize upd H2 t (.tup [.non,.str n1])=H3 at s3;refine ⟨_,rfl,zN ?_⟩;ext;refine ⟨2,rfl,?_⟩;refine .inl (qae (s3 _ _ ha) (v:=.str m1) (back (j:=2) (by decide) (by omega) k1) ?_);ext;exact ⟨by show 2<=sizeLine;decide,fun t2 ht2=>qeS qb (q _ (qF s3 ht2))⟩
theorem K3:FnScope ["web","pairs","row","partners","steps"] ["web","pairs","row"] (qg qaL):=fS
noncomputable def qej (rs:List Str):List (Str×Str):=stp rs++(stp rs).map fun q=>(q.2,q.1)
noncomputable def flT (dps qs:List (Str×Str)) (rs:List Str):List (Str×Str):=dps.filter fun q=>decide (pt qs q.1=some q.2) != decide (q∈qej rs)
inductive spTu (cw:Addr) (vs:List V) (H:Hp) (Q:VK) (E:XK):Prop|mk (x l a:Addr) (ss:List Str) (ns:List Nat) (us:List Addr) (tps qs:List (Str×Str)) (rs:List Str) (_:vs=[.ref x,.ref l,.ref a]) (_:Rw cw H x l a ss ns us tps qs rs) (_:∀ (l:Addr) (ls:List Addr) (H':Hp),L2.Same H H'->H l=none->H' l=some (.lst (ls.map V.ref))->ls.length<=196->All2 (PrAt H H' l) ls (flT (qR ss ns ss.length) qs rs)->Q (.ref l) H')
theorem All2.app9 {R:α->β->Prop} {l1 l2:List α} {m1 m2:List β} (a:All2 R l1 m1) (b:All2 R l2 m2):All2 R (l1++l2) (m1++m2):=by
 refine ⟨by rw [yt,yt,a.len,b.len],fun k x y hx hy=>?_⟩;by_cases hk:k < l1.length
 ·rw [Yc hk] at hx;rw [Yc (by rw [<- a.len];exact hk)] at hy;exact a.at_ k x y hx hy
 ·rw [yI (by omega)] at hx;rw [yI (by rw [<- a.len];omega),<- a.len] at hy;exact b.at_ _ x y hx hy
theorem cat_W {a b:Addr} {Q:VK} (ea:G a=some (.lst xs)) (eb:G b=some (.lst ys)) (hl:xs.length + ys.length<=2000) (q:∀ p,G p=none->Q (.ref p) (upd G p (.lst (xs++ys)))):qcy K (.ref a) (.ref b) G Q:=.inl ⟨a,b,_,_,rfl,rfl,ea,eb,yi hl (by decide),q⟩
theorem ok_tu (F:Fun K "turned" "turned" qaL f fd) (T:Txt K mg cc cw) (kX:DefOk P w K mg base CX0 9 "partners_in" ["web","pairs"] (spPn cw)) (Kx:MethOk P w K mg base CX0 7 cw "ties" ["self"] (spTs cw)) (uV:DefOk P w K mg base CX0 11 "can_turn" ["web","pairs","thing"] (spIr cw)):FnOk P w K mg base CX0 12 f fd ["web","pairs","row"] (spTu cw):=by
 refine F.ok K3 fun _ _ _ _ H vs Q E hr h=>?_
 ·obtain ⟨x,pl,a,ss,ns,ps,tps,qs,rs,rfl,R,q⟩:=h;have hu:=jP hr;obtain ⟨wx,dd,ol,nn,hb,_⟩:=id R.web;have ha:=R.row;have hxl:=R.rok.few;have h2:=R.rok.two;refine ⟨_,(qc (qT (je (qZ (qk uV (hmR hr) qw (qa (pv 0) (qa (pv 1) (qa (pv 2) qd)))))) (qe jo) qv)
 (qc (qj (i:=3) K3.nd rfl (Xw rfl) (qk kX (hmR hr) qw (qa (pv 0) (qa (pv 1) qd))))
 (qc (qj (i:=4) K3.nd rfl (Xw rfl) (qx (j3 (K:=K) rfl) (qc6 (K:=K) rfl rfl rfl rfl T.b_list T.b_zip (qa (pv 2) (qa (jf (qc2 (K:=K) rfl) (pv 2) (jk qh) jz) qd))) (qc6 (K:=K) rfl rfl rfl rfl T.b_list T.b_zip (qa (jf (qc2 (K:=K) rfl) (pv 2) (jk qh) jz) (qa (pv 2) qd)))))
 (qe (qm (jg (sc:=qg qaL) (XN:=["web","pairs","row","partners","steps"]) ["tie","steps","partners"] 1 [4,3] rfl rfl rfl (by decide +kernel) rfl (by decide +kernel)
  (qQ (K:=K) rfl (qX Kx (hmR hr) (pv 0))) (fun _ _ _ _=>(qq (i:=0) (show (["tie","steps","partners"]:List Str).Nodup by decide +kernel) rfl (yE rfl))) qS
  (fun _ _ _ _=>(q9 (qo (qa4 (K:=K) rfl hu) (jM (zO (K:=K) rfl hu) (qaA (qfB hu) (pv 2) (qr (qt (K:=K) rfl hu) (pv 0) qh (fun _ _=>rfl)) ⟨rfl,rfl,rfl,rfl⟩) (qr (qt (K:=K) rfl hu) (pv 0) qh (fun _ _=>rfl)) (qB _)) (jM (zS (K:=K) rfl hu) (pv 0) (pv 1) (by with_unfolding_all rfl)) (qB _))))
  (fun _ _ _ _=>(pv 0)))))))),?_⟩
  ext;refine ⟨x,pl,a,ss,ns,ps,tps,qs,rs,rfl,R,fun H1 s1=>?_⟩;refine ⟨_,rfl,qP (fun h=>by cases h) fun _=>?_⟩;ext;refine ⟨x,pl,ss,ns,ps,tps,qs,rfl,R.web.same s1,R.adj,R.prs.same s1,R.pgo,fun d H2 s2 hd0 hd=>?_⟩;have s02:=s1.trans s2;have ha2:=s02 _ _ ha;ext;refine vLZ ?_;ext;refine .inl ⟨a,_,rfl,SqL.of ha2,fun c1 hc1=>?_⟩;rw [qba,<- kx];have t1:=qF (Sr H2) (o:=.lst (rs.tail.map V.str)) hc1;have ec1:upd H2 c1 (.lst (rs.tail.map V.str)) c1=some (.lst (rs.tail.map V.str)):=qb;generalize upd H2 c1 (.lst (rs.tail.map V.str))=G1 at t1 ec1;ext;refine ⟨a,c1,_,_,rfl,SqL.of (t1 _ _ ha2),SqL.of ec1,by rw [ya];exact hxl,fun l1 ts1 G2 Z1=>?_⟩;have t2:=t1.trans Z1.sm;ext;refine vLZ ?_;ext;refine .inl ⟨a,_,rfl,SqL.of (t2 _ _ ha2),fun c2 hc2=>?_⟩;rw [qba,<- kx];have t3:=qF (Sr G2) (o:=.lst (rs.tail.map V.str)) hc2;have ec2:upd G2 c2 (.lst (rs.tail.map V.str)) c2=some (.lst (rs.tail.map V.str)):=qb;generalize upd G2 c2 (.lst (rs.tail.map V.str))=G3 at t3 ec2;have t23:=t2.trans t3;ext;refine ⟨c2,a,_,_,rfl,SqL.of ec2,SqL.of (t23 _ _ ha2),by rw [ya,xT];omega,fun l2 ts2 G4 Z2=>?_⟩;have t4:=t23.trans Z2.sm;have t24:=t3.trans Z2.sm
  have A1:=qei (qs:=stp rs) Z1 (by rw [qas,xT];omega) fun j q e=>by
   obtain ⟨z1,z2⟩:=stp_at.mp e;exact ⟨z1,by rw [xY];exact z2⟩
  have A2:=qei (qs:=(stp rs).map fun q=>(q.2,q.1)) Z2 (by rw [ya,qas,xT];omega) fun j q e=>by
   rw [yd] at e;obtain ⟨q',e',rfl⟩:=yn.mp e;obtain ⟨z1,z2⟩:=stp_at.mp e';exact ⟨by rw [xY];exact z2,z1⟩
  have hl1:ts1.length<=1000:=by rw [A1.len,qas];omega
  have hl2:ts2.length<=1000:=by rw [A2.len,ya,qas];omega
  refine cat_W (t24 _ _ Z1.ls) Z2.ls (by rw [ya,ya,A1.len,A2.len,ya,qas];omega) fun st hst=>?_;have t5:=qF (Sr G4) (o:=.lst (ts1.map V.ref++ts2.map V.ref)) hst;have est:upd G4 st (.lst (ts1.map V.ref++ts2.map V.ref)) st=some (.lst (ts1.map V.ref++ts2.map V.ref)):=qb;generalize upd G4 st (.lst (ts1.map V.ref++ts2.map V.ref))=G5 at t5 est;have t25:=t4.trans t5;have hPS:PL G5 st (ts1++ts2) (qej rs):=⟨by rw [yu];exact est,All2.app9 (A1.mono fun _ _ z=>(t24.trans t5) _ _ z) (A2.mono fun _ _ z=>t5 _ _ z)⟩;have s05:=s02.trans t25;have hd5:=t25 _ _ hd;ext;refine ⟨x,wx,_,rfl,s05 _ _ hb,jU (by decide +kernel),?_⟩;ext;refine ⟨x,ss,ns,rfl,R.web.same s05,fun l ts G6 s6 hl0 hl hl196 hAl=>?_⟩;have s06:=s05.trans s6;have hd6:=s6 _ _ hd5;have hPS6:=hPS.same s6;refine .inl ⟨⟨_,.of hl⟩,qK (xs:=ts.map V.ref) (fun i ys G=>G=G6/\∃ us:List Addr,ys=us.map V.ref/\us.length<=i/\All2 (fun t ab=>G5 t=none/\G6 t=some (.tup [.str ab.1,.str ab.2])) us (flT ((qR ss ns ss.length).take i) qs rs)) ⟨rfl,[],rfl,yh _,.nil⟩ (fun i ys G _ hp'=>by rw [hp'.1];exact .of hl) (fun i y ys G hy hp'=>?_) fun ys G hp'=>?_⟩
  ·obtain ⟨rfl,us,rfl,hul,hU⟩:=hp';rw [yd] at hy;obtain ⟨t,ht,rfl⟩:=yn.mp hy;have hi:i < ts.length:=(yc.mp ht).1;obtain ⟨ab,hab⟩:∃ ab,(qR ss ns ss.length)[i]?=some ab:=⟨_,yb (by rw [<- hAl.len];exact hi)⟩;obtain ⟨z1,z2,z3⟩:=hAl.at_ i t ab ht hab
   have hstep:flT ((qR ss ns ss.length).take (i + 1)) qs rs=flT ((qR ss ns ss.length).take i) qs rs++(if (decide (pt qs ab.1=some ab.2) != decide (ab∈qej rs))=true then [ab] else []):=by
    unfold flT;rw [yH,hab,yW];show _++[ab].filter _=_;rw [yS,Yv]
   ext;refine qcE ?_;ext;refine ⟨d,rfl,.inl ⟨_,.inl hd6⟩,?_⟩;ext;refine .inl (qat z3 (v:=.str ab.1) (qy (j:=0) rfl) ?_);refine ⟨_,DGet.k (k:=Sum.inr ab.1) hd6,?_⟩;rw [jD];ext;refine .inl (qat z3 (v:=.str ab.2) (qy (j:=1) rfl) ?_);refine qfa ?_;ext;refine pl_in hPS6 z3 ?_;refine .inl ⟨rfl,rfl,?_⟩;have eb:eqV (.bl (decide (pt qs ab.1=some ab.2))) (.bl (decide ((ab.1,ab.2)∈qej rs)))=(decide (pt qs ab.1=some ab.2)==decide (ab∈qej rs)):=rfl;rw [yF rfl,eb,hstep];refine ⟨_,rfl,?_⟩;show if (decide (pt qs ab.1=some ab.2) != decide (ab∈qej rs))=true then _ else _
   cases hne:(decide (pt qs ab.1=some ab.2) != decide (ab∈qej rs)) with
   | true =>
    refine zN ?_;rw [yF rfl];ext;exact ⟨by rw [ya];exact qi (by omega),rfl,us++[t],by rw [yu];rfl,by rw [yt];simp;omega,hU.snoc ⟨z1,z3⟩⟩
   | false =>
    refine yq ?_;rw [yC (by decide),Yi];exact ⟨rfl,us,rfl,by omega,hU⟩
  ·obtain ⟨rfl,us,rfl,hul,hU⟩:=hp';have e:(ts.map V.ref).length=(qR ss ns ss.length).length:=by rw [ya,hAl.len]
   rw [e,yM] at hU;rw [ya] at hul;refine ⟨by rw [ya];exact yX (qi (by omega)),fun g hg=>?_⟩;have s7:=qF s06 (o:=.lst (us.map V.ref)) hg;exact q g us _ s7 (s06.free hg) qb (by omega) (hU.mono fun t ab z=>⟨s05.free z.1,(fun e=>by rw [e,hg] at z;cases z.2),by rw [qf (fun e=>by rw [e,hg] at z;cases z.2)];exact z.2⟩)
noncomputable def adjR (rs:List Str) (a b:Str):Prop:=∃ j:Nat,(rs[j]?=some a/\rs[j + 1]?=some b)\/(rs[j]?=some b/\rs[j + 1]?=some a)
theorem adjR.symm (h:adjR rs a b):adjR rs b a:=h.elim fun j z=>⟨j,z.symm⟩
theorem adjR.mem (h:adjR rs a b):a∈rs/\b∈rs:=h.elim fun j z=>z.elim (fun y=>⟨ye y.1,ye y.2⟩) fun y=>⟨ye y.2,ye y.1⟩
structure TurnR (f:Str->Option Str) (rs:List Str):Prop where
 nd:rs.Nodup
 two:2<=rs.length
 sym:∀ a b,f a=some b->f b=some a
 alt:∀ (j:Nat) r s t,rs[j]?=some r->rs[j + 1]?=some s->rs[j + 2]?=some t->(f s=some r↔¬ f s=some t)
 fst:∀ s t,rs[0]?=some s->rs[1]?=some t->f s=none\/f s=some t
 lst:∀ s t,rs[rs.length - 1]?=some s->rs[rs.length - 2]?=some t->f s=none\/f s=some t
theorem TurnR.near {f:Str->Option Str} (h:TurnR f rs) (ha:a∈rs) (hf:f a=some b):adjR rs a b:=by
 obtain ⟨i,hi⟩:=yf ha;have hil:i < rs.length:=(yc.mp hi).1;have h2:=h.two;by_cases h0:i=0
 ·subst h0;obtain ⟨t,ht⟩:∃ t,rs[1]?=some t:=⟨_,yb (by omega)⟩;rcases h.fst a t hi ht with z | z
  ·rw [z] at hf;cases hf
  ·rw [hf] at z;cases z;exact ⟨0,.inl ⟨hi,ht⟩⟩
 ·by_cases hl:i=rs.length - 1
  ·obtain ⟨t,ht⟩:∃ t,rs[rs.length - 2]?=some t:=⟨_,yb (by omega)⟩;rcases h.lst a t (by rw [<- hl];exact hi) ht with z | z
   ·rw [z] at hf;cases hf
   ·rw [hf] at z;cases z;exact ⟨rs.length - 2,.inr ⟨ht,by rw [show rs.length - 2 + 1=i by omega];exact hi⟩⟩
  ·obtain ⟨r,hr⟩:∃ r,rs[i - 1]?=some r:=⟨_,yb (by omega)⟩;obtain ⟨t,ht⟩:∃ t,rs[i + 1]?=some t:=⟨_,yb (by omega)⟩;have hi1:i - 1 + 1=i:=by omega
   have hi2:i - 1 + 2=i + 1:=by omega
   have:=h.alt (i - 1) r a t hr (by rw [hi1];exact hi) (by rw [hi2];exact ht);by_cases z:f a=some t
   ·rw [hf] at z;cases z;exact ⟨i,.inl ⟨hi,ht⟩⟩
   ·have z:=this.mpr z;rw [hf] at z;cases z;exact ⟨i - 1,.inr ⟨hr,by rw [hi1];exact hi⟩⟩
noncomputable def flipR (f:Str->Option Str) (rs:List Str) (a b:Str):Prop:=(a∉rs/\f a=some b)\/(adjR rs a b/\f a≠some b)
theorem TurnR.xor {f:Str->Option Str} (h:TurnR f rs):flipR f rs a b↔¬ (f a=some b↔adjR rs a b):=by
 unfold flipR;constructor
 ·rintro (⟨h1,h2⟩ | ⟨h1,h2⟩) e
  ·exact h1 (e.mp h2).mem.1
  ·exact h2 (e.mpr h1)
 ·intro e;by_cases h1:f a=some b
  ·refine .inl ⟨fun hm=>e ⟨fun _=>h.near hm h1,fun _=>h1⟩,h1⟩
  ·by_cases h2:adjR rs a b
   ·exact .inr ⟨h2,h1⟩
   ·exact absurd ⟨fun z=>absurd z h1,fun z=>absurd z h2⟩ e
theorem flipR.symm {f:Str->Option Str} (h:TurnR f rs) (e:flipR f rs a b):flipR f rs b a:=by
 rcases e with ⟨h1,h2⟩ | ⟨h1,h2⟩
 ·refine .inl ⟨fun hm=>?_,h.sym _ _ h2⟩;exact h1 (h.near hm (h.sym _ _ h2)).mem.2
 ·exact .inr ⟨h1.symm,fun z=>h2 (h.sym _ _ z)⟩
theorem adjR.at_ (nd:rs.Nodup) (hi:rs[i]?=some a) (h:adjR rs a b):rs[i + 1]?=some b\/(1<=i/\rs[i - 1]?=some b):=by
 obtain ⟨j,⟨h1,h2⟩ | ⟨h1,h2⟩⟩:=h
 ·have:=qz nd hi h1;subst this;exact .inl h2
 ·have:=qz nd hi h2;subst this;exact .inr ⟨by omega,by simpa using h1⟩
theorem flipR.one {f:Str->Option Str} (h:TurnR f rs) (e1:flipR f rs a b) (e2:flipR f rs a c):b=c:=by
 rcases e1 with ⟨h1,h2⟩ | ⟨h1,h2⟩
 ·rcases e2 with ⟨h3,h4⟩ | ⟨h3,h4⟩
  ·rw [h2] at h4;exact ym h4
  ·exact absurd h3.mem.1 h1
 ·rcases e2 with ⟨h3,h4⟩ | ⟨h3,h4⟩
  ·exact absurd h1.mem.1 h3
  ·obtain ⟨i,hi⟩:=yf h1.mem.1
   have key:∀ {b c:Str},rs[i + 1]?=some b->1<=i->rs[i - 1]?=some c->f a≠some b->f a≠some c->False:=fun hb h1' hc n1 n2=>by
    have hi1:i - 1 + 1=i:=by omega
    have hi2:i - 1 + 2=i + 1:=by omega
    exact n2 ((h.alt (i - 1) _ a _ hc (by rw [hi1];exact hi) (by rw [hi2];exact hb)).mpr n1)
   rcases h1.at_ h.nd hi with z1 | ⟨l1,z1⟩<;>rcases h3.at_ h.nd hi with z2 | ⟨l2,z2⟩
   ·rw [z1] at z2;exact ym z2
   ·exact (key z1 l2 z2 h2 h4).elim
   ·exact (key z2 l1 z1 h4 h2).elim
   ·rw [z1] at z2;exact ym z2
theorem TurnR.again {f:Str->Option Str} (h:TurnR f rs) (hg:∀ a b,g a=some b↔flipR f rs a b):TurnR g rs:=by
 have on:∀ {a b:Str},adjR rs a b->(g a=some b↔¬ f a=some b):=fun hab=>by
  rw [hg,h.xor];constructor
  ·exact fun e z=>e ⟨fun _=>hab,fun _=>z⟩
  ·exact fun e z=>e (z.mpr hab)
 have only:∀ {a b:Str},a∈rs->g a=some b->adjR rs a b:=fun ha e=>by
  rcases (hg _ _).mp e with ⟨h1,_⟩ | ⟨h1,_⟩
  ·exact absurd ha h1
  ·exact h1
 refine ⟨h.nd,h.two,fun a b e=>(hg _ _).mpr (((hg _ _).mp e).symm h),fun j r s t hr hs ht=>?_,fun s t hs ht=>?_,fun s t hs ht=>?_⟩
 ·have a1:adjR rs s r:=⟨j,.inr ⟨hr,hs⟩⟩;have a2:adjR rs s t:=⟨j + 1,.inl ⟨hs,ht⟩⟩;rw [on a1,on a2,h.alt j r s t hr hs ht]
 ·cases e:g s with
  | none=>exact .inl rfl
  | some b =>
   have:=(only (ye hs) e).at_ h.nd hs;rcases this with z | ⟨z,_⟩
   ·rw [ht] at z;exact .inr (by rw [<- e,e];exact z.symm ▸ rfl)
   ·omega
 ·cases e:g s with
  | none=>exact .inl rfl
  | some b =>
   have h2:=h.two;have:=(only (ye hs) e).at_ h.nd hs;rcases this with z | ⟨_,z⟩
   ·have:=(yc.mp z).1;omega
   ·rw [show rs.length - 1 - 1=rs.length - 2 by omega,ht] at z;exact .inr (by rw [<- z])
theorem TurnR.inner {f:Str->Option Str} (h:TurnR f rs) (h0:0 < i) (h1:i + 1 < rs.length) (hs:rs[i]?=some s):(f s).isSome=true:=by
 obtain ⟨r,hr⟩:∃ r,rs[i - 1]?=some r:=⟨_,yb (by omega)⟩;obtain ⟨t,ht⟩:∃ t,rs[i + 1]?=some t:=⟨_,yb h1⟩;have:=h.alt (i - 1) r s t hr (by rw [show i - 1 + 1=i by omega];exact hs) (by rw [show i - 1 + 2=i + 1 by omega];exact ht)
 cases e:f s with
 | some _=>rfl
 | none =>
  rw [e] at this;have:=this.mpr (fun z=>by cases z);cases this
theorem qdF {f:Str->Option Str} (h:TurnR f rs) (hg:∀ a b,g a=some b↔flipR f rs a b) (hadj:adjR rs a t) (hf:f a=none\/f a=some t) (hg2:g a=none\/g a=some t):(g a).isSome=!(f a).isSome:=by
 rcases hf with z | z
 ·rw [(hg a t).mpr (.inr ⟨hadj,by rw [z];exact fun y=>by cases y⟩),z];rfl
 ·rcases hg2 with y | y
  ·rw [y,z];rfl
  ·exact absurd ⟨fun _=>hadj,fun _=>z⟩ (h.xor.mp ((hg a t).mp y))
theorem qek {f:Str->Option Str} (h:TurnR f rs) (ha:rs[0]?=some a) (hb:rs[rs.length - 1]?=some b):(rs.filter fun s=>(f s).isSome).length + 2=rs.length + (if (f a).isSome then 1 else 0) + (if (f b).isSome then 1 else 0):=by
 have h2:=h.two
 obtain ⟨m,hm⟩:∃ m,rs=a::(m++[b]):=by
  match rs,ha,hb,h2 with
  | x::r,ha,hb,h2 =>
   have hx:x=a:=ym ha;have hr:r≠[]:=fun z=>by rw [z] at h2;simp at h2
   refine ⟨r.dropLast,?_⟩
   have e:r.getLast hr=b:=by
    have hl:0 < r.length:=List.length_pos_iff.mpr hr;rw [show (x::r).length - 1=r.length - 1 + 1 by simp;omega,List.getElem?_cons_succ] at hb;rw [List.getLast_eq_getElem];exact (yc.mp hb).2
   rw [hx,<- e,xj]
 have hml:rs.length=m.length + 2:=by rw [hm];simp
 have hmid:(m.filter fun s=>(f s).isSome)=m:=List.filter_eq_self.mpr fun s hs=>by
  obtain ⟨i,hi⟩:=yf hs;have hil:=(yc.mp hi).1;refine h.inner (i:=i + 1) (by omega) (by omega) ?_;rw [hm,List.getElem?_cons_succ,Yc hil];exact hi
 rw [hml,hm,yS,yW,hmid,yS,Yv];cases (f a).isSome<;>cases (f b).isSome<;>simp<;>omega
theorem qcM (hn:ss.Nodup) (hr:rs.Nodup) (hin:∀ s∈rs,s∈ss) (p:Str->Bool):(ss.filter p).length=(rs.filter p).length + (ss.filter fun s=>p s&&!decide (s∈rs)).length:=by
 have e1:(rs.filter p).length=(ss.filter fun s=>p s&&decide (s∈rs)).length:=X3
  (qdC (hr.filter _) fun s hs=>by
   obtain ⟨a,b⟩:=yp.mp hs;exact yp.mpr ⟨hin s a,by rw [b,yG a];rfl⟩)
  (qdC (hn.filter _) fun s hs=>by
   obtain ⟨a,b⟩:=yp.mp hs;obtain ⟨b1,b2⟩:=(Ye _ _).mp b;exact yp.mpr ⟨yk b2,b1⟩)
 rw [e1];clear e1 hn hin
 induction ss with
 | nil=>rfl
 | cons x r ih =>
  rw [yS,yS,yS];cases p x<;>cases decide (x∈rs)<;>simp<;>omega
theorem qbW:∀ {qs:List (Str×Str)},(∀ q∈qs,q.1≠q.2)->qs.Pairwise (fun q r=>q.1≠r.1/\q.1≠r.2/\q.2≠r.1/\q.2≠r.2)->(qu qs).Nodup
 | [],_,_=>kP
 | q::r,h,hp=>by
  obtain ⟨p1,p2⟩:=List.pairwise_cons.mp hp;have ih:=qbW (fun x hx=>h x (yJ _ hx)) p2;show (q.1::q.2::qu r).Nodup
  have out:∀ n∈qu r,q.1≠n/\q.2≠n:=fun n hn=>by
   obtain ⟨x,hx,hxn⟩:=xp.mp hn;obtain ⟨a,b,c,d⟩:=p1 x hx;simp only [yB,yY,YB] at hxn;rcases hxn with rfl | rfl
   ·exact ⟨a,c⟩
   ·exact ⟨b,d⟩
  refine yo.mpr ⟨fun z=>?_,yo.mpr ⟨fun z=>(out _ z).2 rfl,ih⟩⟩;rcases yB.mp z with z | z
  ·exact h q yZ z
  ·exact (out _ z).1 rfl
theorem stpB_adj:(a,b)∈qej rs↔adjR rs a b:=by
 unfold qej adjR;rw [yz,yQ];constructor
 ·rintro (h | ⟨q,h,e⟩)
  ·obtain ⟨j,hj⟩:=yf h;exact ⟨j,.inl (stp_at.mp hj)⟩
  ·obtain ⟨j,hj⟩:=yf h;cases e;exact ⟨j,.inr (stp_at.mp hj)⟩
 ·rintro ⟨j,⟨h1,h2⟩ | ⟨h1,h2⟩⟩
  ·exact .inl (ye (stp_at.mpr ⟨h1,h2⟩))
  ·exact .inr ⟨(b,a),ye (stp_at.mpr ⟨h1,h2⟩),rfl⟩
theorem flT_flip {dps:List (Str×Str)} (h:TurnR (pt qs) rs):(a,b)∈flT dps qs rs↔(a,b)∈dps/\flipR (pt qs) rs a b:=by
 unfold flT;rw [yp,h.xor];refine and_congr_right fun _=>?_;show (decide (pt qs a=some b) != decide ((a,b)∈qej rs))=true↔_;by_cases h1:pt qs a=some b<;>by_cases h2:(a,b)∈qej rs
 ·rw [yG h1,yG h2];exact ⟨(fun z=>by cases z),fun z=>absurd ⟨fun _=>stpB_adj.mp h2,fun _=>h1⟩ z⟩
 ·rw [yG h1,yl h2];exact ⟨fun _ z=>h2 (stpB_adj.mpr (z.mp h1)),fun _=>rfl⟩
 ·rw [yl h1,yG h2];exact ⟨fun _ z=>h1 (z.mpr (stpB_adj.mp h2)),fun _=>rfl⟩
 ·rw [yl h1,yl h2];exact ⟨(fun z=>by cases z),fun z=>absurd ⟨fun y=>absurd y h1,fun y=>absurd (stpB_adj.mpr y) h2⟩ z⟩
noncomputable def tA (tps:List (Str×Str)) (a b:Str):Prop:=(a,b)∈tps\/(b,a)∈tps
theorem pt_some:s∈qu qs↔(pt qs s).isSome=true:=by
 cases e:pt qs s with
 | none=>exact ⟨fun z=>absurd z (pt_none.mp e),(fun z=>by cases z)⟩
 | some b=>exact ⟨fun _=>rfl,fun _=>Yu fun z=>by rw [pt_none.mpr z] at e;cases e⟩
structure PFn (ss:List Str) (tps:List (Str×Str)) (f:Str->Option Str):Prop where
 sym:∀ a b,f a=some b->f b=some a
 tie:∀ a b,f a=some b->tA tps a b
noncomputable def qfb (f:Str->Option Str) (ss:List Str):Nat:=(ss.filter fun s=>(f s).isSome).length
section
variable {ss:List Str} {ns:List Nat} {tps qs:List (Str×Str)} {f g:Str->Option Str}
theorem PGo.fn (h:PGo ss tps qs):PFn ss tps (pt qs):=⟨fun a b e=>(qee h.nd).mp e,fun a b e=>by
 rcases qdD e with z | z
 ·exact (h.inn _ z).1
 ·exact (h.inn _ z).1.symm⟩
theorem PGo.cnt (h:PGo ss tps qs) (hn:ss.Nodup):2 * qs.length=qfb (pt qs) ss:=by
 rw [<- qar];refine X3 (qdC h.nd fun s hs=>yp.mpr ⟨?_,pt_some.mp hs⟩) (qdC (hn.filter _) fun s hs=>pt_some.mpr (yp.mp hs).2);obtain ⟨q,hq,hs⟩:=xp.mp hs;simp only [yB,yY,YB] at hs;rcases hs with rfl | rfl
 ·exact (h.inn q hq).2.1
 ·exact (h.inn q hq).2.2.1
theorem qcN:(snL f ss).length + qfb f ss=ss.length:=by
 unfold snL qfb
 induction ss with
 | nil=>rfl
 | cons x r ih =>
  rw [yS,yS];cases (f x).isSome
  ·rw [yF (show (!false)=true from rfl),yC Yl,yA,yA];omega
  ·rw [yC (show ¬ (!true)=true by decide),yF (show true=true from rfl),yA,yA];omega
theorem zc (hw:WOk ss ns) (hA:Adj ss ns tps):(a,b)∈qR ss ns ss.length↔tA tps a b/\∃ i j:Nat,i < j/\ss[i]?=some a/\ss[j]?=some b:=by
 unfold qR;rw [xp];constructor
 ·rintro ⟨i,hi,h⟩;have hi:=Yw.mp hi;obtain ⟨s,hs⟩:∃ s,ss[i]?=some s:=⟨_,yb hi⟩;have hg:ss.getD i ""=s:=by rw [Yk,hs];rfl
  unfold qe8 at h;rw [hg] at h;obtain ⟨o,ho,e⟩:=yQ.mp h;cases e;obtain ⟨h1,h2⟩:=yp.mp ho;obtain ⟨h3,h4⟩:=qea hw.nd h1;have gb:ss[ss.idxOf b]?=some b:=by rw [yb (YE h3),YY]
  exact ⟨(hA i _ _ _ hs gb).mp h4,i,_,yk h2,hs,gb⟩
 ·rintro ⟨h,i,j,hij,h1,h2⟩;refine ⟨i,Yw.mpr (yc.mp h1).1,?_⟩;have hg:ss.getD i ""=a:=by rw [Yk,h1];rfl
  have ej:ss.idxOf b=j:=by
   have hb:=ye h2;exact qz hw.nd (by rw [yb (YE hb),YY]) h2
  unfold qe8;rw [hg];refine yQ.mpr ⟨b,yp.mpr ⟨?_,yG (by rw [ej];exact hij)⟩,rfl⟩;rw [zy hw.nd];exact yp.mpr ⟨ye h2,by rw [ej];exact (hA i j a b h1 h2).mpr h⟩
theorem qel (hw:WOk ss ns):(qR ss ns ss.length).Nodup:=by
 refine List.pairwise_flatMap.mpr ⟨fun i _=>?_,?_⟩
 ·unfold qe8;refine YF.mpr ?_;have nd:((inB ss 0 (ns.getD i 0)).filter fun o=>decide (i < ss.idxOf o)).Nodup:=by rw [zy hw.nd];exact (hw.nd.filter _).filter _
  exact nd.imp fun hab e=>hab (Prod.mk.inj e).2
 ·refine Y3 (fun {i j} hi hj hij q hq r hr e=>?_) (List.pairwise_lt_range (n:=ss.length));have hi:=Yw.mp hi;have hj:=Yw.mp hj;unfold qe8 at hq hr;obtain ⟨_,_,rfl⟩:=yQ.mp hq;obtain ⟨_,_,rfl⟩:=yQ.mp hr;have e:=(Prod.mk.inj e).1;rw [Yk,Yk,yb hi,yb hj] at e;have:=qz hw.nd (yb hi) (by rw [yb hj];exact congrArg some e.symm);omega
theorem qeT (hw:WOk ss ns) (hA:Adj ss ns tps) (hT:∀ ab∈tps,ab.1∈ss/\ab.2∈ss/\ab.1≠ab.2) (h:PFn ss tps g) {L:List (Str×Str)} (hL:∀ a b,(a,b)∈L↔(a,b)∈qR ss ns ss.length/\g a=some b) (hS:L.Sublist (qR ss ns ss.length)):PGo ss tps L/\pt L=g:=by
 have mem:∀ q∈L,g q.1=some q.2/\tA tps q.1 q.2/\∃ i j:Nat,i < j/\ss[i]?=some q.1/\ss[j]?=some q.2:=fun q hq=>by
  obtain ⟨h1,h2⟩:=(hL q.1 q.2).mp hq;exact ⟨h2,(zc hw hA).mp h1⟩
 have inn:∀ {a b:Str},tA tps a b->a∈ss/\b∈ss/\a≠b:=fun z=>z.elim (fun y=>hT _ y) fun y=>⟨(hT _ y).2.1,(hT _ y).1,(hT _ y).2.2.symm⟩
 have nd:(qu L).Nodup:=by
  refine qbW (fun q hq=>(inn (mem q hq).2.1).2.2) (Y3 (fun {q r} hq hr hne=>?_) (hS.nodup (qel hw)));obtain ⟨g1,_,i,j,l1,a1,a2⟩:=mem q hq;obtain ⟨g2,_,i',j',l2,b1,b2⟩:=mem r hr;have s1:=h.sym _ _ g1;have s2:=h.sym _ _ g2;refine ⟨fun z=>?_,fun z=>?_,fun z=>?_,fun z=>?_⟩
  ·rw [z,g2] at g1;exact hne (x0 z (ym g1).symm)
  ·rw [z,s2] at g1;have e:=ym g1;rw [z] at a1;rw [<- e] at a2;have:=qz hw.nd a1 b2;have:=qz hw.nd a2 b1;omega
  ·rw [z,g2] at s1;have e:=ym s1;rw [z] at a2;rw [<- e] at a1;have:=qz hw.nd a1 b2;have:=qz hw.nd a2 b1;omega
  ·rw [z,s2] at s1;exact hne (x0 (ym s1).symm z)
 have pg:∀ q∈L,(q∈tps\/(q.2,q.1)∈tps)/\q.1∈ss/\q.2∈ss/\q.1≠q.2:=fun q hq=>⟨(mem q hq).2.1,inn (mem q hq).2.1⟩
 have hl:L.length<=30:=by
  have:=qdC (l:=qu L) (m:=ss) nd fun s hs=>by
   obtain ⟨q,hq,hs⟩:=xp.mp hs;simp only [yB,yY,YB] at hs;rcases hs with rfl | rfl
   ·exact (pg q hq).2.1
   ·exact (pg q hq).2.2.1
  rw [qar] at this;have:=hw.few;omega
 refine ⟨⟨pg,nd,hl⟩,funext fun a=>qef fun b=>?_⟩;rw [qed nd];constructor
 ·rintro (z | z)
  ·exact ((hL _ _).mp z).2
  ·exact h.sym _ _ ((hL _ _).mp z).2
 ·intro e;obtain ⟨m1,m2,ne⟩:=inn (h.tie _ _ e);obtain ⟨i,hi⟩:=yf m1;obtain ⟨j,hj⟩:=yf m2;rcases Xf i j with l | l | l
  ·exact .inl ((hL _ _).mpr ⟨(zc hw hA).mpr ⟨h.tie _ _ e,i,j,l,hi,hj⟩,e⟩)
  ·subst l;rw [hi] at hj;exact absurd (ym hj) ne
  ·exact .inr ((hL _ _).mpr ⟨(zc hw hA).mpr ⟨(h.tie _ _ e).symm,j,i,l,hj,hi⟩,h.sym _ _ e⟩)
theorem tps_ok (hw:WOk ss ns) (hA:Adj ss ns tps) (hT:∀ ab∈tps,ab.1∈ss/\ab.2∈ss/\ab.1≠ab.2) (h:PGo ss tps qs):PGo ss tps (qbC (qR ss ns ss.length) qs)/\pt (qbC (qR ss ns ss.length) qs)=pt qs:=
 qeT hw hA hT h.fn (fun a b=>by unfold qbC;rw [yp,yR]) X8
end
theorem flip_ex {f:Str->Option Str} (h:TurnR f rs):∃ g:Str->Option Str,∀ a b,g a=some b↔flipR f rs a b:=
 ⟨fun a=>@dite _ (∃ b,flipR f rs a b) (Classical.propDecidable _) (fun z=>some z.choose) fun _=>none,fun a b=>by
  dsimp only;split
  ·rename_i z
   exact ⟨fun e=>by rw [<- ym e];exact z.choose_spec,fun e=>congrArg some (z.choose_spec.one h e)⟩
  ·rename_i z
   exact ⟨(fun e=>by cases e),fun e=>absurd ⟨b,e⟩ z⟩⟩
section
variable {ss:List Str} {tps qs:List (Str×Str)} {f g:Str->Option Str} {rs:List Str}
theorem flip_fn (h:TurnR f rs) (hf:PFn ss tps f) (ha:∀ a b,adjR rs a b->tA tps a b) (hg:∀ a b,g a=some b↔flipR f rs a b):PFn ss tps g:=
 ⟨fun a b e=>(hg _ _).mpr (((hg _ _).mp e).symm h),fun a b e=>((hg _ _).mp e).elim (fun z=>hf.tie _ _ z.2) fun z=>ha _ _ z.1⟩
theorem flip_cnt (h:TurnR f rs) (hg:∀ a b,g a=some b↔flipR f rs a b) (hn:ss.Nodup) (hin:∀ s∈rs,s∈ss) (ha:rs[0]?=some a) (hb:rs[rs.length - 1]?=some b):qfb g ss + 2=qfb f ss + (if (f a).isSome then 0 else 2) + (if (f b).isSome then 0 else 2):=by
 have h2:=h.two;have ag:=h.again hg;unfold qfb;rw [qcM hn h.nd hin,qcM (p:=fun s=>(f s).isSome) hn h.nd hin];have r1:=qek h ha hb;have r2:=qek ag ha hb
 have eo:(ss.filter fun s=>(g s).isSome&&!decide (s∈rs))=ss.filter fun s=>(f s).isSome&&!decide (s∈rs):=Y8 fun s _=>by
  by_cases z:s∈rs
  ·rw [yG z];simp
  ·have:g s=f s:=qef fun b=>by
    rw [hg];exact ⟨fun y=>y.elim (fun x=>x.2) fun x=>absurd x.1.mem.1 z,fun y=>.inl ⟨z,y⟩⟩
   rw [this]
 rw [eo];obtain ⟨t,ht⟩:∃ t,rs[1]?=some t:=⟨_,yb (by omega)⟩;obtain ⟨u,hu⟩:∃ u,rs[rs.length - 2]?=some u:=⟨_,yb (by omega)⟩;have e1:=qdF h hg ⟨0,.inl ⟨ha,ht⟩⟩ (h.fst a t ha ht) (ag.fst a t ha ht);have e2:=qdF h hg (a:=b) (t:=u) ⟨rs.length - 2,.inr ⟨hu,by rw [show rs.length - 2 + 1=rs.length - 1 by omega];exact hb⟩⟩ (h.lst b u hb hu) (ag.lst b u hb hu);rw [e1,e2] at r2;generalize (rs.filter fun s=>(g s).isSome).length=x1 at r2 ⊢;generalize (rs.filter fun s=>(f s).isSome).length=x2 at r1 ⊢;cases e3:(f a).isSome<;>cases e4:(f b).isSome<;>rw [e3,e4] at r1 r2<;>simp at r1 r2 ⊢<;>omega
theorem turns_turn (hs:∀ a b,f a=some b->f b=some a) (nd:rs.Nodup) (two:2<=rs.length) (st:Turns A f rs) (hd:∀ s,rs[0]?=some s->f s=none) (tl:∀ s t,rs[rs.length - 1]?=some s->rs[rs.length - 2]?=some t->f s=none\/f s=some t):TurnR f rs:=by
 refine ⟨nd,two,hs,fun j r s t hr h1 ht=>?_,fun s t h1 _=>.inl (hd s h1),tl⟩;have a1:=(st j r s hr h1).2;have a2:=(st (j + 1) s t h1 ht).2;have:f s=some r↔f r=some s:=⟨fun z=>hs _ _ z,fun z=>hs _ _ z⟩;rw [this,a1,a2];omega
theorem turns_adj (st:Turns (tA tps) f rs):∀ a b,adjR rs a b->tA tps a b:=fun a b h=>by
 obtain ⟨j,⟨h1,h2⟩ | ⟨h1,h2⟩⟩:=h
 ·exact (st j _ _ h1 h2).1
 ·exact (st j _ _ h1 h2).1.symm
theorem Aug.row (h:Aug (tA tps) (pt qs) rs) (hl:rs.length<=1000) (hT:∀ ab∈tps,ab.1∈ss/\ab.2∈ss/\ab.1≠ab.2):RowG ss tps qs rs:=by
 refine ⟨h.nd,h.two,hl,fun r hr=>?_,fun j ab e=>?_,h.hd,h.tl⟩
 ·obtain ⟨i,hi⟩:=yf hr;have hil:=(yc.mp hi).1;have h2:=h.two;have inn:∀ {a b:Str},tA tps a b->a∈ss/\b∈ss:=fun z=>z.elim (fun y=>⟨(hT _ y).1,(hT _ y).2.1⟩) fun y=>⟨(hT _ y).2.1,(hT _ y).1⟩;by_cases h0:i + 1 < rs.length
  ·exact (inn (h.st i r _ hi (yb h0)).1).1
  ·refine (inn (h.st (i - 1) _ r (yb (by omega)) (by rw [show i - 1 + 1=i by omega];exact hi)).1).2
 ·obtain ⟨e1,e2⟩:=stp_at.mp e;obtain ⟨k1,k2⟩:=h.st j _ _ e1 e2;exact ⟨k1,Yp.mpr k2⟩
theorem Aug.turn (h:Aug (tA tps) (pt qs) rs) (hs:∀ a b,pt qs a=some b->pt qs b=some a):TurnR (pt qs) rs:=
 turns_turn hs h.nd h.two h.st h.hd fun s t e _=>.inl (h.tl s e)
theorem qem (hw:WOk ss ns) (hA:Adj ss ns tps) (hT:∀ ab∈tps,ab.1∈ss/\ab.2∈ss/\ab.1≠ab.2) (hq:PGo ss tps qs) (h:Aug (tA tps) (pt qs) rs) (hl:rs.length<=1000):PGo ss tps (flT (qR ss ns ss.length) qs rs)/\(flT (qR ss ns ss.length) qs rs).length=qs.length + 1:=by
 have ht:=h.turn hq.fn.sym;obtain ⟨g,hg⟩:=flip_ex ht;obtain ⟨k1,k2⟩:=qeT hw hA hT (flip_fn ht hq.fn (turns_adj h.st) hg) (L:=flT (qR ss ns ss.length) qs rs) (fun a b=>by rw [flT_flip ht,hg]) X8;refine ⟨k1,?_⟩;have c1:=hq.cnt hw.nd;have c2:=k1.cnt hw.nd;rw [k2] at c2;have h2:=h.two;obtain ⟨a,ha⟩:∃ t,rs[0]?=some t:=⟨_,yb (by omega)⟩;obtain ⟨b,hb⟩:∃ t,rs[rs.length - 1]?=some t:=⟨_,yb (by omega)⟩;have:=flip_cnt ht hg hw.nd (h.row hl hT).inn ha hb;rw [h.hd a ha,h.tl b hb] at this;simp at this;omega
end
theorem Ka:FnScope ["web","pairs","now","rows","row"] ["web","pairs"] (qg jF):=fS
noncomputable def MxF (ss:List Str) (tps qs:List (Str×Str)):Prop:=∃ S:FS,Fn (tA tps) (pt qs) S ss
structure Wt (cw:Addr) (H:Hp) (x:Addr) (ss:List Str) (ns:List Nat) (tps:List (Str×Str)):Prop where
 web:WebAt cw H x ss ns
 adj:Adj ss ns tps
 ok:∀ ab∈tps,ab.1∈ss/\ab.2∈ss/\ab.1≠ab.2
theorem Wt.same (h:Wt cw H x ss ns tps) (s:L2.Same H H'):Wt cw H' x ss ns tps:=⟨h.web.same s,h.adj,h.ok⟩
theorem Wt.wok (h:Wt cw H x ss ns tps):WOk ss ns:=by obtain ⟨_,_,_,_,_,_,_,_,z⟩:=h.web;exact z
theorem Wt.wb (h:Wt cw H x ss ns tps) (g:PGo ss tps qs):Wb (tA tps) ss qs:=by
 refine ⟨⟨fun z=>Or.symm z,fun z e=>?_,fun {a b} e=>g.fn.sym a b e,fun {a b} e=>g.fn.tie a b e⟩,fun a b z=>z.elim (fun y=>(h.ok _ y).1) fun y=>(h.ok _ y).2.1,g.nd,h.wok.few,h.wok.nd⟩;rcases z with z | z
 ·exact (h.ok _ z).2.2 e
 ·exact (h.ok _ z).2.2 e.symm
theorem Wt.bes (h:Wt cw H x ss ns tps):∀ (j:Nat) z u,ss[j]?=some z->(u∈inB ss 0 (ns.getD j 0)↔tA tps z u):=fun j z u e=>by
 rw [zy h.wok.nd,yp];constructor
 ·rintro ⟨h1,h2⟩;exact (h.adj j _ z u e (by rw [yb (YE h1),YY])).mp h2
 ·intro t;have hu:u∈ss:=t.elim (fun y=>(h.ok _ y).2.1) fun y=>(h.ok _ y).1;exact ⟨hu,(h.adj j _ z u e (by rw [yb (YE hu),YY])).mpr t⟩
theorem qfI {cf:Addr} {a:Fo} {wt:List Str} (h:FoD cf cw H0 H a ss ns qs S dn wt .non (tA tps)) (W:Wb (tA tps) ss qs):Fn (tA tps) (pt qs) S ss:=by
 rcases h.en with ⟨_,rfl,I,C,sg⟩ | ⟨t,r,e,_⟩
 ·have ev:∀ v,v∈dn↔S.rows v≠none:=fun v=>by have:=h.fo.evi v;rwa [Yi] at this
  refine ⟨I,W.gr,W.inn,W.nd,fun v u hv ha=>(C.cl v u ((ev v).mpr hv) ha).imp id fun z=>⟨z.1,Yu fun y=>z.2 ((ev u).mpr y)⟩,sg,fun v hv=>h.fo.evs v ((h.fo.evi v).mpr hv)⟩
 ·cases e
noncomputable def FRow (ss:List Str) (tps qs:List (Str×Str)) (H:Hp) (v:V) (H':Hp):Prop:=L2.Same H H'/\((v=.non/\MxF ss tps qs)\/∃ (r:Addr) (rs:List Str),v=.ref r/\H r=none/\H' r=some (.lst (rs.map V.str))/\rs.length<=1000/\Aug (tA tps) (pt qs) rs)
inductive spGf (cw:Addr) (vs:List V) (H:Hp) (Q:VK) (E:XK):Prop|mk (x l:Addr) (ss:List Str) (ns:List Nat) (us:List Addr) (tps qs:List (Str×Str)) (_:vs=[.ref x,.ref l]) (_:Wt cw H x ss ns tps) (_:PL H l us qs) (_:PGo ss tps qs) (_:∀ (t l2 r2:Addr) (ls:List Addr) (ws:List V) (rs:List (Str×Str)) (H':Hp),L2.Same H H'->H' t=some (.tup [.ref l2,.ref r2])->PL H' l2 ls rs->H' r2=some (.lst ws)->rs.length=qs.length + ws.length->PGo ss tps rs->MxF ss tps rs->Q (.ref t) H')
theorem qfc {y:Addr} {Q:VK} (W:Wt cw G x ss ns tps) (hP:PL G l us qs) (hG:PGo ss tps qs) (hy:G y=none) (hd:G dx=none) (hne:dx≠y)
  (h:∀ H0 H2 a S dn wt lo,a.x=y->FoD (cc 9) cw H0 H2 a ss ns qs S dn wt lo (tA tps)->L2.Same G H2->Q .non H2):spFi cc cw [.ref y,.ref x,.ref l] (upd (upd G dx (.own y)) y (.ins (cc 9) dx [])) Q E:=by
 have s2:=qF (qF (Sr G) (o:=.own y) hd) (o:=.ins (cc 9) dx []) (show upd G dx (.own y) y=none by rw [qf (Yn hne)];exact hy);refine ⟨y,dx,x,l,ss,ns,us,tps,qs,tA tps,rfl,qb,W.web.same s2,W.adj,W.wb hG,W.wok.nm,W.bes,hP.same s2,hG.few,hG.inn,fun H0 H' a S dn wt lo ea _ hD so=>h H0 H' a S dn wt lo ea hD fun c o e=>?_⟩;refine hD.fo.sm c o (so c o ?_);rw [zJ (fun z=>by rw [z,hy] at e;cases e),qf (fun z=>by rw [z,hy] at e;cases e),qf (fun z=>by rw [z,hd] at e;cases e)];exact e
theorem qgo {a:Fo} {wt:List Str} {Q:VK} (hD:FoD (cc 9) cw H0 H2 a ss ns qs S dn wt lo (tA tps)) (hW:Wb (tA tps) ss qs) (h:∀ v H',FRow ss tps qs H2 v H'->Q v H'):spFr cc cw [.ref a.x] H2 Q E:=by
 refine ⟨H0,a,ss,ns,qs,S,dn,wt,lo,_,rfl,hD,fun e=>?_,fun t r e et hA l hl=>?_⟩
 ·subst e;exact h _ _ ⟨L2.Same.refl _,.inl ⟨rfl,S,qfI hD hW⟩⟩
 ·refine h _ _ ⟨qF (Sr _) hl,.inr ⟨l,r,rfl,hl,qb,?_,hA⟩⟩;rcases hD.en with ⟨e',_⟩ | ⟨t',r',e',et',_,_,hl'⟩
  ·rw [e] at e';cases e'
  ·rw [e] at e';cases e';rw [et] at et';have:=congrArg List.length (show r.map V.str=r'.map V.str by injection (ym et'));rw [ya,ya] at this;omega
theorem ok_gf (F:Fun K "greatest_from" "greatest_from" jF f fd) (T:Txt K mg cc cw) (uH:DefOk P w K mg base CX0 10 "told_pairs" ["web","pairs"] (spTp cw)) (KY:MakeOk P w K mg base CX0 10 (cc 9) "Forest" ["self","web","pairs"] (spFi cc cw)) (K4:MethOk P w K mg base CX0 1 (cc 9) "row" ["self"] (spFr cc cw)) (Uf:DefOk P w K mg base CX0 12 "turned" ["web","pairs","row"] (spTu cw)):FnOk P w K mg base CX0 13 f fd ["web","pairs"] (spGf cw):=by
 refine F.ok Ka fun _ _ _ _ H vs Q E hr h=>?_
 ·obtain ⟨x,l,ss,ns,us,tps,qs,rfl,W,hP,hG,q⟩:=h;have hu:=jP hr;refine ⟨_,(qc (qj (i:=2) Ka.nd rfl (yE rfl) (qk uH (hmR hr) qw (qa (pv 0) (qa (pv 1) qd))))
 (qc (qj (i:=3) Ka.nd rfl (yE rfl) (qM qd))
 (qc (qj (i:=4) Ka.nd rfl (yE rfl) (qX K4 (hmR hr) (qaE KY (hmR hr) (qa (pv 0) (qa (pv 2) qd)))))
 (qc (zZ yV (qo qcY (pv 4) qap (qB _))
 (qc (qL (qaW (K:=K) rfl yD y0 Yb qI (pv 3) (qa (pv 4) qd)))
 (qc (qj (i:=2) Ka.nd rfl (yE rfl) (qk Uf (hmR hr) qw (qa (pv 0) (qa (pv 2) (qa (pv 4) qd)))))
 (qe (qj (i:=4) Ka.nd rfl (yE rfl) (qX K4 (hmR hr) (qaE KY (hmR hr) (qa (pv 0) (qa (pv 2) qd)))))))))
 (qe (qm (jA (qa (pv 2) (qa (pv 3) qd))))))))),?_⟩
  ext;refine ⟨x,l,ss,ns,us,tps,qs,rfl,W.web,W.adj,hP,hG,fun l1 ls1 H1 s1 hl0 hl1 _ hA1=>?_⟩;ext;refine ⟨by decide,fun r2 hr2=>?_⟩;have s2:=qF (Sr H1) (o:=.lst []) hr2;have er2:upd H1 r2 (.lst []) r2=some (.lst []):=qb;have W2:=W.same (s1.trans s2);have t0:=tps_ok W.wok W.adj W.ok hG
  have hc0:(qbC (qR ss ns ss.length) qs).length=qs.length + 0:=by
   have c1:=hG.cnt W.wok.nd;have c2:=t0.1.cnt W.wok.nd;rw [t0.2] at c2;omega
  have hP2:PL (upd H1 r2 (.lst [])) l1 ls1 (qbC (qR ss ns ss.length) qs):=⟨s2 _ _ hl1,hA1.mono fun _ _ z=>s2 _ _ z.2.2⟩;have s02:=s1.trans s2;generalize upd H1 r2 (.lst [])=G at s02 er2 W2 hP2;generalize qbC (qR ss ns ss.length) qs=ps at hP2 t0 hc0;replace t0:=t0.1;ext;refine fun y dx hy hdx hne=>qfc W2 hP2 t0 hy hdx hne fun H0 H3 a S dn wt lo ea hD s3=>?_;subst ea;obtain ⟨fx,ff,fx1,_,_,_,fx2⟩:=id hD.fo.obj;refine ⟨rfl,a.x,fx,ff,rfl,fx1,fx2 _ (by decide +kernel),?_⟩;ext;refine qgo hD (W2.wb t0) fun v H4 hv=>?_;have s03:=s02.trans s3;have hr20:H r2=none:=s1.free hr2;have nl12:l1≠r2:=fun e=>by rw [e,hr2] at hl1;cases hl1
  ext;obtain ⟨Wv,hW0⟩:∃ Wv:Nat->L2.St->Hp->Prop,Wv=fun m σ J=>∃ (ln:Addr) (us:List Addr) (ps:List (Str×Str)) (ws:List V) (v:V),σ=[some (.ref x),some (.ref l),some (.ref ln),some (.ref r2),some v]/\L2.Same H J/\PL J ln us ps/\ln≠r2/\PGo ss tps ps/\J r2=some (.lst ws)/\ps.length=qs.length + ws.length/\m=8 - ps.length /\
   ((v=.non/\MxF ss tps ps)\/∃ (r:Addr) (rs:List Str),v=.ref r/\r≠r2/\J r=some (.lst (rs.map V.str))/\rs.length<=1000/\Aug (tA tps) (pt ps) rs):=⟨_,rfl⟩
  refine ⟨Wv,⟨_,by
   rw [hW0];refine ⟨l1,ls1,ps,[],v,rfl,s03.trans hv.1,hP2.same (s3.trans hv.1),nl12,t0,hv.1 _ _ (s3 _ _ er2),hc0,rfl,hv.2.imp id ?_⟩;rintro ⟨r,rs,e1,e2,e3,e4,e5⟩;exact ⟨r,rs,e1,(fun z=>by rw [z,s3 _ _ er2] at e2;cases e2),e3,e4,e5⟩⟩,fun m σ J hWv=>?_⟩
  rw [hW0] at hWv;obtain ⟨ln,us,ps,ws,v,rfl,sJ,hPJ,nln,gJ,er2,hc,hm,hv⟩:=hWv;ext
  have hfew:2 * ps.length<=14:=by
   have:=gJ.cnt W.wok.nd;have h2:qfb (pt ps) ss<=ss.length:=yT _ _;have:=W.wok.few;omega
  rcases hv with ⟨rfl,mx⟩ | ⟨r,rs,rfl,nr,er,hl,au⟩
  ·refine ⟨rfl,_,rfl,qP (fun h=>by simp at h) fun _=>?_⟩;ext;refine ⟨by show 2<=sizeLine;decide,fun t ht=>?_⟩;have s9:=qF (Sr J) (o:=.tup [.ref ln,.ref r2]) ht;exact q t ln r2 us ws ps _ (sJ.trans s9) qb (hPJ.same s9) (s9 _ _ er2) hc gJ mx
  ·refine ⟨rfl,_,rfl,zN ⟨fun σ' H'=>∃ m',m' < m/\Wv m' σ' H',fun _ _ z=>z,?_⟩⟩;ext;refine ⟨.inl ⟨rfl,_,SqL.of er2⟩,?_⟩;ext;refine ⟨r2,_,_,rfl,rfl,er2,qi (by omega),?_⟩;have sU:=qaH sJ (o:=.lst (ws++[.ref r])) hr20;have hPU:PL (upd J r2 (.lst (ws++[.ref r]))) ln us ps:=⟨by rw [qf nln];exact hPJ.1,hPJ.2.mono fun t ab z=>by rw [qf (qav z er2 (fun e=>by cases e))];exact z⟩;have erU:upd J r2 (.lst (ws++[.ref r])) r=some (.lst (rs.map V.str)):=by rw [qf nr];exact er
   have e2U:upd J r2 (.lst (ws++[.ref r])) r2=some (.lst (ws++[.ref r])):=qb;generalize upd J r2 (.lst (ws++[.ref r]))=G1 at sU hPU erU e2U ⊢;have WU:=W.same sU;ext;refine ⟨x,ln,r,ss,ns,us,tps,ps,rs,rfl,⟨WU.web,WU.adj,hPU,gJ,erU,au.row hl W.ok⟩,fun l3 ls3 H5 s5 hl30 hl3 _ hA3=>?_⟩;obtain ⟨g3,c3⟩:=qem W.wok W.adj W.ok gJ au hl;generalize flT (qR ss ns ss.length) ps rs=p3 at hA3 g3 c3;have n3:l3≠r2:=fun e=>by rw [e,e2U] at hl30;cases hl30
   have hP3:PL H5 l3 ls3 p3:=⟨hl3,hA3.mono fun _ _ z=>z.2.2⟩;have s05:=sU.trans s5;have W5:=W.same s05;have e25:=s5 _ _ e2U;ext;refine fun y dx hy hdx hne=>qfc W5 hP3 g3 hy hdx hne fun H6 H7 b S5 dn5 wt5 lo5 eb hD5 s7=>?_;subst eb;obtain ⟨fy,fg,fy1,_,_,_,fy2⟩:=id hD5.fo.obj;refine ⟨rfl,b.x,fy,fg,rfl,fy1,fy2 _ (by decide +kernel),?_⟩;ext;refine qgo hD5 (W5.wb g3) fun v H8 hv=>?_;ext;refine ⟨8 - p3.length,by omega,?_⟩;rw [hW0];refine ⟨l3,ls3,p3,ws++[.ref r],v,rfl,(s05.trans s7).trans hv.1,hP3.same (s7.trans hv.1),n3,g3,hv.1 _ _ (s7 _ _ e25),by rw [c3,hc,yt];rfl,rfl,hv.2.imp id ?_⟩;rintro ⟨r',rs',e1,e2,e3,e4,e5⟩;exact ⟨r',rs',e1,(fun z=>by rw [z,s7 _ _ e25] at e2;cases e2),e3,e4,e5⟩
theorem uO:FnScope ["web"] ["web"] (qg qam):=fS
inductive spGr (cw:Addr) (vs:List V) (H:Hp) (Q:VK) (E:XK):Prop|mk (x:Addr) (ss:List Str) (ns:List Nat) (tps:List (Str×Str)) (_:vs=[.ref x]) (_:Wt cw H x ss ns tps) (_:∀ (l:Addr) (ls:List Addr) (rs:List (Str×Str)) (H':Hp),L2.Same H H'->PL H' l ls rs->PGo ss tps rs->MxF ss tps rs->Q (.ref l) H')
theorem ok_gr (F:Fun K "greatest" "greatest" qam f fd) (T:Txt K mg cc cw) (uh:DefOk P w K mg base CX0 13 "greatest_from" ["web","pairs"] (spGf cw)):FnOk P w K mg base CX0 14 f fd ["web"] (spGr cw):=by
 refine F.ok uO fun _ _ _ _ H vs Q E hr h=>?_
 ·obtain ⟨x,ss,ns,tps,rfl,W,q⟩:=h;have hu:=jP hr;refine ⟨_,(qe (qm (qr (qt (K:=K) rfl hu) (qk uh (hmR hr) qw (qa (pv 0) (qa (qM qd) qd))) qh (fun _ _=>rfl)))),?_⟩;ext;refine ⟨by decide,fun l hl=>?_⟩;have s1:=qF (Sr H) (o:=.lst []) hl;ext;refine ⟨x,l,ss,ns,[],tps,[],rfl,W.same s1,⟨qb,.nil⟩,⟨(fun q h=>by cases h),kP,by decide⟩,fun t l2 r2 ls ws rs H' s2 et hP _ _ hG hM=>?_⟩;exact .inl (qat et (v:=.ref l2) (qy (j:=0) rfl) (q l2 ls rs H' (s1.trans s2) hP hG hM))
theorem u6:FnScope ["_law_script","_law_k"] ["_law_script","_law_k"] (qg qbb):=fS
theorem uW:FnScope ["_law_cell_here"] ["_law_cell_here"] (qg qaM):=fS
theorem KG:FnScope ["_law_purse_here","_law_many_here","_law_digit","_law_number"] ["_law_purse_here","_law_many_here"] (qg qbc):=fS
theorem u7:FnScope ["_law_purse_here","_law_most"] ["_law_purse_here","_law_most"] (qg qbd):=fS
inductive spCe (K:W.Frag) (vs:List V) (H:Hp) (Q:VK) (E:XK):Prop|mk (a:Addr) (ns:List Int) (k:Nat) (_:vs=[.ref a,.int (k:Int)]) (_:SqL K H a (ns.map V.int)) (_:k < 1000) (_:∀ i:Int,Q (.int i) H)
noncomputable def Pu (H:Hp) (p:Addr):Prop:=∃ a b c:Int,H p=some (.lst [.int a,.int b,.int c])/\0<=a/\0<=b/\b < 2147483629/\0<=c
inductive spPu (vs:List V) (H:Hp) (Q:VK) (E:XK):Prop|mk (c:Int) (_:vs=[.int c]) (_:∀ (p:Addr) (H':Hp),L2.Same H H'->H p=none->Pu H' p->Q (.ref p) H')
inductive spTkP (vs:List V) (H:Hp) (Q:VK) (E:XK):Prop|mk (p:Addr) (m:Nat) (_:vs=[.ref p,.int (m:Int)]) (_:Pu H p) (_:0 < m) (_:m < 1000) (_:∀ (d:Nat) (H':Hp),d < m->But p H H'->Pu H' p->Q (.int (d:Int)) H')
inductive spMyP (vs:List V) (H:Hp) (Q:VK) (E:XK):Prop|mk (p:Addr) (m:Nat) (_:vs=[.ref p,.int (m:Int)]) (_:Pu H p) (_:m<=14) (_:∀ (d:Nat) (H':Hp),d<=14->But p H H'->Pu H' p->Q (.int (d:Int)) H')
theorem But.trans7 (a:But p H H1) (b:But p H1 H2):But p H H2:=fun c o n e=>b c o n (a c o n e)
theorem But.new7 (a:But p H H1) (hl:H1 l=none):But p H (upd H1 l o):=fun c u n e=>by
 have:=a c u n e;have ne:c≠l:=fun z=>by rw [z,hl] at this;cases this
 rw [qf ne];exact this
theorem But.free7 (a:But p H H1) (hn:l≠p) (hl:H1 l=none):H l=none:=by
 cases e:H l with
 | none=>rfl
 | some o=>rw [a l o hn e] at hl;cases hl
noncomputable abbrev iV (k:Nat):V:=.int (k:Int)
theorem ok_ce (F:Fun K "_law_cell" "_law_cell" qbb f fd) (T:Txt K mg cc cw):FnOk P w K mg base CX0 1 f fd ["_law_script","_law_k"] (spCe K):=by
 refine F.ok u6 fun _ _ _ _ H vs Q E hr h=>?_
 ·obtain ⟨a,ns,k,rfl,hS,h1,q⟩:=h;have hu:=jP hr;refine ⟨_,(qc (qT (qo qcX (pv 1) (qp (jI (K:=K) rfl) rfl T.b_len YA (qa (pv 0) qd)) (qB _)) (qe (qm (qr (qt (K:=K) rfl hu) (pv 0) (pv 1) (fun _ _=>rfl)))) qv)
 (qe (qm (qx (j3 (K:=K) rfl) (qx qb2 qh (pv 1)) qh)))),?_⟩
  ext;refine vLenLs hS ?_;rw [ya];ext;by_cases hk:k < ns.length
  ·rw [yG (show (k:Int) < (ns.length:Int) by omega)];refine zN ?_;ext;refine .inl (vIxLs hS (v:=.int ns[k]) (qy (by rw [yd,yb hk];rfl)) ?_);exact q _
  ·rw [yl (show ¬ (k:Int) < (ns.length:Int) by omega)];refine yq ?_;ext;refine qb3 (.inl ⟨by decide,by decide⟩) ?_;ext;exact q _
theorem ok_pu (F:Fun K "_law_purse" "_law_purse" qaM f fd) (T:Txt K mg cc cw):FnOk P w K mg base CX0 1 f fd ["_law_cell_here"] spPu:=by
 refine F.ok uW fun _ _ _ _ H vs Q E hr h=>?_
 ·obtain ⟨c,rfl,q⟩:=h;refine ⟨_,(qe (qm (qM (qa (qp (qbo rfl) rfl T.b_max boot_max (qa qh (qa (qx qbl (pv 0) (qx op_pow qh qh)) qd))) (qa (qx ze (pv 0) qh) (qa qh qd)))))),?_⟩;ext;refine vI ⟨by decide,by decide,by decide⟩ ?_;ext;refine ⟨_,_,rfl,?_⟩;ext;refine vI (by decide) ?_;ext;refine ⟨by show 3<=sizeLine;decide,fun p hp=>?_⟩;have h1:=Xs c (show (2147483629:Int)≠0 by decide);have h2:=xZ c (show (0:Int) < 2147483629 by decide);exact q p _ (qF (Sr H) hp) hp ⟨_,_,_,qb,by split<;>omega,h1,h2,by decide⟩
theorem ok_tkp (F:Fun K "_law_take" "_law_take" qbc f fd) (T:Txt K mg cc cw):FnOk P w K mg base CX0 1 f fd ["_law_purse_here","_law_many_here"] spTkP:=by
 refine F.ok KG fun _ _ _ _ H vs Q E hr h=>?_
 ·obtain ⟨p,m,rfl,⟨a,b,c,hp,ha,hb,hb2,hc⟩,h0,h1,q⟩:=h;have hu:=jP hr;have hm:(0:Int) < (m:Int):=by omega
  refine ⟨_,(qc (jK (qx (j3 (K:=K) rfl) (qr (qt (K:=K) rfl hu) (pv 0) qh (fun _ _=>rfl)) qh) (jJ (pv 0) qh (jL hu)))
 (qc (qT (qo qez (qr (qt (K:=K) rfl hu) (pv 0) qh (fun _ _=>rfl)) qh (qB _)) (qc (qj (i:=2) KG.nd rfl (yE rfl) (qx ze (qr (qt (K:=K) rfl hu) (pv 0) qh (fun _ _=>rfl)) (pv 1)))
 (qc (jK (qx qcV (qr (qt (K:=K) rfl hu) (pv 0) qh (fun _ _=>rfl)) (pv 1)) (jJ (pv 0) qh (jL hu)))
 (qe (qm (pv 2))))) qv)
 (qc (qj (i:=3) KG.nd rfl (yE rfl) (qx ze (qx (j3 (K:=K) rfl) (qx (j3 (K:=K) rfl) (qx qb2 (qr (qt (K:=K) rfl hu) (pv 0) qh (fun _ _=>rfl)) qh) (qx qb2 qh (qr (qt (K:=K) rfl hu) (pv 0) qh (fun _ _=>rfl)))) qh) qh))
 (qc (qj (i:=3) KG.nd rfl (yE rfl) (qx ze (qx qb2 (pv 3) (pv 3)) qh))
 (qc (qj (i:=3) KG.nd rfl (yE rfl) (qx ze (qx qb2 (qx (j3 (K:=K) rfl) (pv 3) (qx qb2 qh (qr (qt (K:=K) rfl hu) (pv 0) qh (fun _ _=>rfl)))) qh) qh))
 (qe (qm (qx ze (qx qcV (qx ze (qx qb2 (pv 3) (pv 3)) qh) qh) (pv 1))))))))),?_⟩
  ext;refine .inl (qae hp rfl ?_);ext;refine .inl (qdR hp rfl ?_);have b1:But p H (upd H p (.lst [.int a,.int b,.int (c + 1)])):=fun x o n e=>by rw [qf n];exact e
  have hp1:upd H p (.lst [.int a,.int b,.int (c + 1)]) p=some (.lst [.int a,.int b,.int (c + 1)]):=qb;have eu:upd H p (.lst (([V.int a,.int b,.int c]).set (2:Int).toNat (.int (c + 1))))=upd H p (.lst [.int a,.int b,.int (c + 1)]):=rfl;ext;rw [eu];generalize upd H p (.lst [.int a,.int b,.int (c + 1)])=H1 at b1 hp1;refine .inl (qae hp1 rfl ?_);ext;refine qP (fun hd=>?_) (fun hd=>?_)
  ·ext;refine .inl (qae hp1 rfl ?_);ext;refine vI hm ?_;ext;refine .inl (qae hp1 rfl ?_);ext;refine vI ⟨hm,by omega⟩ ?_;ext;refine .inl (qdR hp1 rfl ?_);ext;have e1:=Xs a (show (m:Int)≠0 by omega);have e2:=xZ a hm;have e3:a % (m:Int)=(((a % (m:Int)).toNat:Nat):Int):=by omega
   rw [e3];exact q _ _ (by omega) (fun x o n e=>by rw [qf n];exact b1 x o n e) ⟨_,_,_,qb,Int.ediv_nonneg ha (by omega),hb,hb2,by omega⟩
  ·ext;refine .inl (qae hp1 rfl ?_);ext;refine qb3 (.inr ⟨by decide,by decide⟩) ?_;ext;refine .inl (qae hp1 rfl ?_);ext;refine qb3 (.inl ⟨by decide,by decide⟩) ?_;ext;refine vI (by decide) ?_;ext;generalize hn1:(b * 48271 + 7919 * (c + 1) + 11) % 2147483647=n1;have hn1a:0<=n1:=by rw [<- hn1];exact Xs _ (by decide)
   have hn1b:n1 < 2147483647:=by rw [<- hn1];exact xZ _ (by decide)
   refine qb3 (.inl ⟨by omega,by omega⟩) ?_;ext;refine vI (by decide) ?_;ext;generalize hn2:n1 * n1 % 2147483629=n2;refine .inl (qae hp1 rfl ?_);ext;refine qb3 (.inl ⟨by decide,by decide⟩) ?_;ext;refine qb3 (.inr ⟨by decide,by decide⟩) ?_;ext;refine vI (by decide) ?_;ext;generalize hn3:(n2 + 31 * (c + 1)) * 69621 % 2147483587=n3;have hn3a:0<=n3:=by rw [<- hn3];exact Xs _ (by decide)
   have hn3b:n3 < 2147483587:=by rw [<- hn3];exact xZ _ (by decide)
   refine qb3 (.inl ⟨by omega,by omega⟩) ?_;ext;refine vI (by decide) ?_;ext;refine vI ⟨by decide,by decide⟩ ?_;ext;refine vI hm ?_;generalize n3 * n3 % 2147483579 / 8=n4;have e1:=Xs n4 (show (m:Int)≠0 by omega);have e2:=xZ n4 hm;have e3:n4 % (m:Int)=(((n4 % (m:Int)).toNat:Nat):Int):=by omega
   rw [e3];exact q _ _ (by omega) b1 ⟨_,_,_,hp1,ha,hb,hb2,by omega⟩
theorem ok_my (F:Fun K "_law_many" "_law_many" qbd f fd) (T:Txt K mg cc cw) (kW:DefOk P w K mg base CX0 1 "_law_take" ["_law_purse_here","_law_many_here"] spTkP):FnOk P w K mg base CX0 2 f fd ["_law_purse_here","_law_most"] spMyP:=by
 refine F.ok u7 fun _ _ _ _ H vs Q E hr h=>?_
 ·obtain ⟨p,m,rfl,hB,hm,q⟩:=h;have hu:=jP hr;refine ⟨_,(qe (qm (qk kW (hmR hr) qw (qa (pv 0) (qa (qr (qt (K:=K) rfl hu) (qM (qa qh (qa qh (qa qh (qa qh (qa qh (qa qh (qa qh (qa (qx (j3 (K:=K) rfl) (pv 1) qh) qd))))))))) (qk kW (hmR hr) qw (qa (pv 0) (qa qh qd))) (fun _ _=>rfl)) qd))))),?_⟩;ext;obtain ⟨a,b,c,hp,hr4⟩:=id hB;refine ⟨by show 8<=sizeLine;decide,fun e he0=>?_⟩;have hep:p≠e:=fun z=>by rw [<- z,hp] at he0;cases he0
  obtain ⟨xs,hxs⟩:∃ xs:List Nat,xs=[3,5,7,8,8,9,9,m + 1]:=⟨_,rfl⟩;have b1:But p H (upd H e (.lst (xs.map iV))):=But.new7 (fun x o _ z=>z) he0;have ee:upd H e (.lst (xs.map iV)) e=some (.lst (xs.map iV)):=qb;have hB1:Pu (upd H e (.lst (xs.map iV))) p:=⟨a,b,c,by rw [qf hep];exact hp,hr4⟩;have eu:upd H e (.lst [V.int 3,.int 5,.int 7,.int 8,.int 8,.int 9,.int 9,.int ((m:Int) + 1)])=upd H e (.lst (xs.map iV)):=by rw [hxs];rfl
  have hx1:∀ x∈xs,0 < x/\x<=15:=fun x hx=>by
   rw [hxs] at hx;simp only [yB,yY,YB] at hx;omega
  have hx8:xs.length=8:=by rw [hxs];rfl
  rw [eu];generalize upd H e (.lst (xs.map iV))=H1 at b1 ee hB1;ext;refine ⟨p,8,rfl,hB1,by decide,by decide,fun d H2 hd b2 hB2=>?_⟩;obtain ⟨x,hx⟩:∃ x,xs[d]?=some x:=⟨_,yb (by omega)⟩;have hx2:=hx1 x (ye hx);refine .inl (qae (b2 _ _ hep.symm ee) (v:=iV x) (qy (by rw [yd,hx];rfl)) ?_);ext;exact ⟨p,x,rfl,hB2,hx2.1,by omega,fun d2 H3 hd2 b3 hB3=>q d2 H3 (by omega) ((b1.trans7 b2).trans7 b3) hB3⟩
theorem Kc:FnScope ["_law_purse_here","_law_many_here","_law_letters","_law_first","_law_step","_law_way","_law_stem","_law_found","_law_k","_law_sign"] ["_law_purse_here","_law_many_here"] (qg zW):=fS
theorem qen {X:L2.Cx} {st:List PySem.Stmt} {t:L2.TS} (t':L2.TS) (h:L2.PSs X st t) (k:∀ D σ H,t' D σ H->t D σ H):L2.PSs X st t':=fun pins s σ H D I q=>h pins s σ H D I (k D σ H q)
noncomputable def stepsJ:List Nat:=[1,3,5,7,9,11]
noncomputable def cJ (first step j:Nat):Nat:=97 + (first + step * j) % 26
theorem cJ_sg (first step j:Nat):sg (cJ first step j)=true:=by unfold cJ;exact qfF (by omega) (by omega)
theorem qeU {step:Nat} (hs:step∈stepsJ) {k:Nat} (hj:j < 14) (hk:k < 14) (e:cJ first step j=cJ first step k):j=k:=by
 unfold cJ at e;simp only [stepsJ,yB,yY,YB] at hs;rcases hs with rfl | rfl | rfl | rfl | rfl | rfl<;>omega
noncomputable def NmJ (way first step j:Nat) (s:Str):Prop:=zG s=true/\if way=2 then s.cps.toList.head?=some (cJ first step j) else s.cps.toList.getLast?=some (cJ first step j)
theorem NmJ.inj {way step:Nat} (hs:step∈stepsJ) {k:Nat} (hj:j < 14) (hk:k < 14) (h:NmJ way first step j s) (g:NmJ way first step k s):j=k:=by
 have h2:=h.2;have g2:=g.2;by_cases hw:way=2
 ·rw [yF hw] at h2 g2;rw [h2] at g2;exact qeU hs hj hk (ym g2)
 ·rw [yC hw] at h2 g2;rw [h2] at g2;exact qeU hs hj hk (ym g2)
theorem j8 (a b:Int):(if false=true then !eqV (V.int a) (V.int b) else eqV (V.int a) (V.int b))=decide (a=b):=by
 rw [yC (by decide)];unfold eqV;by_cases h:a=b<;>simp [h]
inductive spNmJ (vs:List V) (H:Hp) (Q:VK) (E:XK):Prop|mk (p:Addr) (m:Nat) (_:vs=[.ref p,.int (m:Int)]) (_:Pu H p) (_:m<=14) (_:∀ (l:Addr) (ss:List Str) (H':Hp),But p H H'->Pu H' p->H l=none->l≠p->H' l=some (.lst (ss.map V.str))->NOk ss->ss.length=m->Q (.ref l) H')
theorem Pu.new (h:Pu H p) (hl:H l=none):Pu (upd H l o) p:=by
 obtain ⟨a,b,c,e,r⟩:=h;have ne:p≠l:=fun z=>by rw [<- z,e] at hl;cases hl
 exact ⟨a,b,c,by rw [qf ne];exact e,r⟩
theorem Pu.apart (h:Pu H p) (hl:H l=none):l≠p:=fun z=>by obtain ⟨a,b,c,e,r⟩:=h;rw [z,e] at hl;cases hl
theorem ok_nmJ (F:Fun K "_law_names" "_law_names" zW f fd) (T:Txt K mg cc cw) (kW:DefOk P w K mg base CX0 1 "_law_take" ["_law_purse_here","_law_many_here"] spTkP):FnOk P w K mg base CX0 2 f fd ["_law_purse_here","_law_many_here"] spNmJ:=by
 refine F.ok Kc fun _ _ _ s H vs Q E hr h=>?_
 ·obtain ⟨p,m,rfl,hB,hm,q⟩:=h;have hu:=jP hr;obtain ⟨TC5,hTC5⟩:∃ t:TS,t=fun D σ H'=>(∀ u H',Q u H'->D.rt u H')/\∃ (x7 x8 x9:Option V) (way first step:Nat) (stem:Str),σ=[some (.ref p),some (.int (m:Int)),some (.str L26),some (.int (first:Int)),some (.int (step:Int)),some (.int (way:Int)),some (.str stem),x7,x8,x9]/\But p H H'/\Pu H' p/\step∈stepsJ/\stem.length=5/\stem.cps.toList.all sg=true:=⟨_,rfl⟩;refine ⟨_,(qc (qj (i:=2) Kc.nd rfl (Xw rfl) qa2)
 (qc (qj (i:=3) Kc.nd rfl (yE rfl) (qk kW (hmR hr) qw (qa (pv 0) (qa qh qd))))
 (qc (qj (i:=4) Kc.nd rfl (yE rfl) (qr (qt (K:=K) rfl hu) (qM (qa qh (qa qh (qa qh (qa qh (qa qh (qa qh qd))))))) (qk kW (hmR hr) qw (qa (pv 0) (qa qh qd))) (fun _ _=>rfl)))
 (qc (qj (i:=5) Kc.nd rfl (yE rfl) (qk kW (hmR hr) qw (qa (pv 0) (qa qh qd))))
 (qc (qj (i:=6) Kc.nd rfl (yE rfl) (qaW (K:=K) rfl PySem.F.plainAttrs_str PySem.F.slot_str_join PySem.F.type_str_join (k_join (K:=K) rfl) qa2 (qa (jg (sc:=qg zW) (XN:=["_law_purse_here","_law_many_here","_law_letters","_law_first","_law_step","_law_way","_law_stem","_law_found","_law_k","_law_sign"]) ["_law_k","_law_letters","_law_purse_here"] 1 [2,0] rfl rfl rfl (by decide +kernel) rfl (by decide +kernel)
  (js rfl T.b_range (qa qh qd)) (fun _ _ _ _=>(qq (i:=0) (show (["_law_k","_law_letters","_law_purse_here"]:List Str).Nodup by decide +kernel) rfl (yE rfl))) qS
  (fun _ _ _ _=>j0)
  (fun _ _ _ _=>(qr (qt (K:=K) rfl hu) (pv 1) (qk kW (hmR hr) qw (qa (pv 2) (qa qh qd))) (fun _ _=>rfl)))) qd)))
 (qen TC5 (qc (qj (i:=7) Kc.nd rfl (yE rfl) (qM qd))
 (qc (ji yV rfl (js rfl T.b_range (qa (pv 1) qd)) (qq (i:=8) Kc.nd rfl (yE rfl))
 (qc (qj (i:=9) Kc.nd rfl (yE rfl) (qr (qt (K:=K) rfl hu) (pv 2) (qx ze (qx (j3 (K:=K) rfl) (pv 3) (qx qb2 (pv 4) (pv 8))) qh) (fun _ _=>rfl)))
 (qe (qT (qo (zO (K:=K) rfl hu) (pv 5) qh (qB _)) (qe (qL (qaW (K:=K) rfl yD y0 Yb qI (pv 7) (qa (pv 9) qd)))) (qe (qT (qo (zO (K:=K) rfl hu) (pv 5) qh (qB _)) (qe (qL (qaW (K:=K) rfl yD y0 Yb qI (pv 7) (qa (qx (j3 (K:=K) rfl) (jf (qc2 (K:=K) rfl) (pv 6) jz (jk qh)) (pv 9)) qd)))) (qe (qT (qo (zO (K:=K) rfl hu) (pv 5) qh (qB _)) (qe (qL (qaW (K:=K) rfl yD y0 Yb qI (pv 7) (qa (qx (j3 (K:=K) rfl) (pv 9) (jf (qc2 (K:=K) rfl) (pv 6) jz (jk (qx ze (pv 8) qh)))) qd)))) (qe (qL (qaW (K:=K) rfl yD y0 Yb qI (pv 7) (qa (qx (j3 (K:=K) rfl) (jf (qc2 (K:=K) rfl) (pv 6) jz (jk (qx ze (pv 8) qh))) (pv 9)) qd))))))))))))
 (qe (qm (pv 7))))) ?cut5)))))),?_⟩
  case cut5 =>
   intro D σ H1 h;rw [hTC5] at h;obtain ⟨hD,x7,x8,x9,way,first,step,stem,rfl,b1,hB1,hst,lstem,astem⟩:=h;have lS:stem.cps.toList.length=5:=by rw [<- lstem];simp [Str.length]
   have tkS:∀ k,(stem.cps.toList.take k).all sg=true:=fun k=>YW.mpr fun c hc=>YW.mp astem c (List.mem_of_mem_take hc)
   have hsl:∀ k:Nat,(Txt.slice stem none (some (k:Int))).length=min k 5:=fun k=>by
    have:(Txt.slice stem none (some (k:Int))).length=(Txt.slice stem none (some (k:Int))).cps.toList.length:=by simp [Str.length]
    rw [this,qa0,yL,lS]
   have hsb:0 < step/\step<=11:=by
    have h:=hst;simp only [stepsJ,yB,yY,YB] at h;omega
   ext;refine ⟨by show 0<=sizeLine;decide,fun l hl=>?_⟩;have hlp:=hB1.apart hl;ext;refine ⟨(m:Int),rfl,by omega,by omega,?_⟩;rw [Yd];refine zw (lo:=0) (n:=m) (fun i σ H'=>∃ (ss:List Str) (x8 x9:Option V),σ=[some (.ref p),some (.int (m:Int)),some (.str L26),some (.int (first:Int)),some (.int (step:Int)),some (.int (way:Int)),some (.str stem),some (.ref l),x8,x9]/\H'=upd H1 l (.lst (ss.map V.str))/\ss.length=i/\∀ (j:Nat) s,ss[j]?=some s->NmJ way first step j s) ⟨[],_,_,rfl,rfl,rfl,fun j s h=>by simp at h⟩ (fun i σ H' hi hp=>?_) fun σ H' hp=>?_
   ·obtain ⟨ss,x8,x9,rfl,rfl,hsl0,hss⟩:=hp;have hl2:upd H1 l (.lst (ss.map V.str)) l=some (.lst (ss.map V.str)):=qb;rw [xX];ext;refine qb3 (.inl ⟨by omega,by omega⟩) ?_;ext;refine vI (by decide) ?_;have ec:((first:Int) + (step:Int) * (i:Int)) % 26=(((first + step * i) % 26:Nat):Int):=by omega
    rw [ec];refine .inl (qgg (by decide +kernel) (qeQ (by omega) (by omega)) ?_);rw [Yd];have hcJ:97 + (first + step * i) % 26=cJ first step i:=rfl;rw [hcJ];have sgc:=cJ_sg first step i;generalize hcc:cJ first step i=cji at sgc
    have fin:∀ (s:Str),NmJ way first step i s->∃ (ss':List Str) (x8 x9:Option V),[some (V.ref p),some (.int (m:Int)),some (.str L26),some (.int (first:Int)),some (.int (step:Int)),some (.int (way:Int)),some (.str stem),some (.ref l),some (.int (i:Int)),some (V.str ⟨#[cji]⟩)]=[some (.ref p),some (.int (m:Int)),some (.str L26),some (.int (first:Int)),some (.int (step:Int)),some (.int (way:Int)),some (.str stem),some (.ref l),x8,x9]/\upd (upd H1 l (.lst (ss.map V.str))) l (.lst (ss.map V.str++[.str s]))=upd H1 l (.lst (ss'.map V.str))/\ss'.length=i + 1/\∀ (j:Nat) s,ss'[j]?=some s->NmJ way first step j s:=fun s hs=>by
     refine ⟨ss++[s],_,_,rfl,?_,by rw [yt,hsl0];rfl,fun j s' hj=>?_⟩
     ·rw [yu];funext c;by_cases hc:c=l
      ·subst hc;rw [qb,qb];rfl
      ·rw [qf hc,qf hc,qf hc]
     ·by_cases hji:j < ss.length
      ·rw [Yc hji] at hj;exact hss j s' hj
      ·rw [yI (by omega)] at hj
       have e0:j - ss.length=0:=by
        have:=(yc.mp hj).1;simp only [yA,YM] at this;omega
       rw [e0] at hj;cases hj;have:j=i:=by omega
       rw [this];exact hs
    have hapl:(ss.map V.str).length < sizeLine:=by rw [ya];exact qi (by omega)
    ext;refine .inl (.inl (.inl ⟨rfl,rfl,?_⟩));rw [j8];ext;refine qP (fun h=>?_) (fun h=>?_)
    ·have hw:(way:Int)=0:=yk h;ext;refine ⟨.inl ⟨rfl,_,.of hl2⟩,?_⟩;ext;refine ⟨l,_,_,rfl,rfl,hl2,hapl,?_⟩;refine fin _ ⟨qa8 rfl (by simp) (by simp) (by simp [sgc]),?_⟩;rw [yC (by omega),hcc];rfl
    ·have hw0:(way:Int)≠0:=fun e=>h (yG e);ext;refine .inl (.inl (.inl ⟨rfl,rfl,?_⟩));rw [j8];ext;refine qP (fun h=>?_) (fun h=>?_)
     ·have hw:(way:Int)=1:=yk h;ext;refine ⟨.inl ⟨rfl,_,.of hl2⟩,?_⟩;ext;refine qf1 (yi (X9 lstem) (by decide)) ?_;have h2:=hsl 2;have t2:=qa0 stem 2;rw [show ((2:Nat):Int)=2 from rfl] at h2 t2;ext;refine qe5 (by rw [h2];show _ + 1<=sizeLine;exact yX (qi (by omega))) ?_;ext;refine ⟨l,_,_,rfl,rfl,hl2,hapl,?_⟩;have el:(Txt.slice stem none (some 2)++(⟨#[cji]⟩:Str)).cps.toList=stem.cps.toList.take 2++[cji]:=by rw [qaK,t2]
      refine fin _ ⟨qa8 el (by simp) (by simp [lS]) (by rw [X2,tkS];simp [sgc]),?_⟩;rw [yC (by omega),hcc,el,Xi];rfl
     ·have hw1:(way:Int)≠1:=fun e=>h (yG e);ext;refine .inl (.inl (.inl ⟨rfl,rfl,?_⟩));rw [j8];ext;have e6:(i:Int) % 6=((i % 6:Nat):Int):=by omega
      have h6:=hsl (i % 6);have t6:=qa0 stem (i % 6);refine qP (fun h=>?_) (fun h=>?_)
      ·have hw:(way:Int)=2:=yk h;ext;refine ⟨.inl ⟨rfl,_,.of hl2⟩,?_⟩;ext;refine vI (by decide) ?_;ext;refine qf1 (yi (X9 lstem) (by decide)) ?_;rw [e6];refine qe5 (by rw [h6];show 1 + _<=sizeLine;exact yX (qi (by omega))) ?_;ext;refine ⟨l,_,_,rfl,rfl,hl2,hapl,?_⟩;have el:((⟨#[cji]⟩:Str)++Txt.slice stem none (some ((i % 6:Nat):Int))).cps.toList=cji::stem.cps.toList.take (i % 6):=by rw [qaK,t6];rfl
       refine fin _ ⟨qa8 el (by simp) (by simp [lS];omega) (by rw [XT,tkS,sgc];rfl),?_⟩;rw [yF (by omega),hcc,el];rfl
      ·have hw2:(way:Int)≠2:=fun e=>h (yG e);ext;refine ⟨.inl ⟨rfl,_,.of hl2⟩,?_⟩;ext;refine vI (by decide) ?_;ext;refine qf1 (yi (X9 lstem) (by decide)) ?_;rw [e6];ext;refine qe5 (by rw [h6];show _ + 1<=sizeLine;exact yX (qi (by omega))) ?_;ext;refine ⟨l,_,_,rfl,rfl,hl2,hapl,?_⟩;have el:(Txt.slice stem none (some ((i % 6:Nat):Int))++(⟨#[cji]⟩:Str)).cps.toList=stem.cps.toList.take (i % 6)++[cji]:=by rw [qaK,t6]
       refine fin _ ⟨qa8 el (by simp) (by simp [lS];omega) (by rw [X2,tkS];simp [sgc]),?_⟩;rw [yC (by omega),hcc,el,Xi];rfl
   ·obtain ⟨ss,x8,x9,rfl,rfl,hsl0,hss⟩:=hp;ext;refine hD _ _ (q l ss _ (b1.new7 hl) (hB1.new hl) (b1.free7 hlp hl) hlp qb ⟨by omega,nodup_key fun j k s hj hk=>?_,fun s hs=>?_⟩ hsl0)
    ·have hj':j < ss.length:=(yc.mp hj).1;have hk':k < ss.length:=(yc.mp hk).1;exact NmJ.inj hst (by omega) (by omega) (hss j s hj) (hss k s hk)
    ·obtain ⟨j,hj⟩:=yf hs;exact (hss j s hj).1
  ext;refine ⟨p,26,rfl,hB,by decide,by decide,fun first H1 hf b1 hB1=>?_⟩;ext;refine ⟨by show 6<=sizeLine;decide,fun m2 hm2=>?_⟩;have hmp:=hB1.apart hm2;have b2:=b1.new7 (o:=.lst (stepsJ.map iV)) hm2;have em:upd H1 m2 (.lst (stepsJ.map iV)) m2=some (.lst (stepsJ.map iV)):=qb;have hB2:Pu (upd H1 m2 (.lst (stepsJ.map iV))) p:=hB1.new hm2;have eu:upd H1 m2 (.lst [V.int 1,V.int 3,V.int 5,V.int 7,V.int 9,V.int 11])=upd H1 m2 (.lst (stepsJ.map iV)):=rfl;rw [eu];generalize upd H1 m2 (.lst (stepsJ.map iV))=H2 at b2 em hB2;ext;refine ⟨p,6,rfl,hB2,by decide,by decide,fun d H3 hd b3 hB3=>?_⟩;obtain ⟨st,hst⟩:∃ st,stepsJ[d]?=some st:=⟨_,yb hd⟩;refine .inl (qae (b3 _ _ hmp em) (v:=iV st) (qy (by rw [yd,hst];rfl)) ?_);ext;refine ⟨p,4,rfl,hB3,by decide,by decide,fun way H4 hw b4 hB4=>?_⟩;have b04:=(b2.trans7 b3).trans7 b4;ext;refine ⟨rfl,?_⟩;ext;refine ⟨5,rfl,by decide,by decide,zx (lo:=0) (n:=5) (fun i ys J=>But p H J/\Pu J p/\∃ xs:List Str,ys=xs.map V.str/\xs.length=i/\∀ x∈xs,x.length=1/\x.cps.toList.all sg=true) ⟨b04,hB4,[],rfl,rfl,fun _ h=>by cases h⟩ (fun i ys J hi hs=>?_) fun ys J hs=>?_⟩
  ·obtain ⟨bJ,hBJ,xs,rfl,hxl,hx1⟩:=hs;ext;refine zN ?_;ext;refine ⟨p,26,rfl,hBJ,by decide,by decide,fun r J2 hr2 b5 hB5=>?_⟩;refine .inl (qgg (by decide +kernel) (qeQ (by omega) (by omega)) ?_);refine ⟨by rw [ya];exact qi (by omega),bJ.trans7 b5,hB5,xs++[_],by rw [yu];rfl,by rw [yt,hxl];rfl,fun x hx=>?_⟩;rcases yz.mp hx with z | z
   ·exact hx1 x z
   ·rw [yy.mp z];refine ⟨rfl,?_⟩;have:=qfF (c:=97 + r) (by omega) (by omega);simp [this]
  ·obtain ⟨bJ,hBJ,zs,rfl,hn,h1⟩:=hs;refine ⟨by rw [ya,hn];decide,fun l5 h5=>?_⟩;ext;refine ⟨_,l5,zs,rfl,rfl,SqL.of qb,by rw [sum_ones fun x hx=>(h1 x hx).1,show ("":Str).length=0 by decide +kernel];omega,?_⟩;have lstem:(Txt.join "" zs).length=5:=by rw [join_len fun x hx=>(h1 x hx).1];omega
   have astem:(Txt.join "" zs).cps.toList.all sg=true:=by
    have e:Txt.join "" zs=Str.join "" zs:=Yo.mp (join_plain_closes "" zs);rw [e];exact qdB fun x hx=>(h1 x hx).2
   generalize Txt.join "" zs=stem at lstem astem ⊢;ext;rw [hTC5];exact ⟨fun _ _ z=>z,_,_,_,way,first,st,stem,rfl,bJ.new7 h5,hBJ.new h5,ye hst,lstem,astem⟩
theorem Kn:FnScope ["_law_purse_here","_law_many_here","_law_way","_law_thin","_law_found","_law_d","_law_k","_law_pair"] ["_law_purse_here","_law_many_here"] (qg qbe):=fS
noncomputable abbrev iT (q:Nat×Nat):HO:=.tup [.int (q.1:Int),.int (q.2:Int)]
noncomputable def IPL (H:Hp) (l:Addr) (ts:List Addr) (TI:List (Nat×Nat)):Prop:=H l=some (.lst (ts.map V.ref))/\All2 (fun t q=>H t=some (iT q)) ts TI
theorem IPL.same {TI:List (Nat×Nat)} (h:IPL H l ts TI) (s:L2.Same H H'):IPL H' l ts TI:=⟨s _ _ h.1,h.2.mono fun _ _ z=>s _ _ z⟩
theorem vRng2 {ta:TA} {σ:L2.St} {R:It->Hp->Prop} (h:ta σ H fun vs H1=>∃ i j:Int,vs=[.int i,.int j]/\(-(2 ^ 62)<=i/\i < 2 ^ 62/\-(2 ^ 62)<=j/\j < 2 ^ 62)/\R (Itr i (j - i).toNat) H1):qfr ta σ H R:=h
theorem qdc {i j:Int} {Q:VK} (q:Q (.bl (decide (i=j))) H):qfO K (.int i) (.int j) H Q:=.inl (.inl (.inl ⟨rfl,rfl,by rw [j8];exact q⟩))
theorem qeo (h:some (iT q')=some (iT q)):q'=q:=by
 injection h with h
 injection h with h
 injection h with h1 h2
 injection h1 with h1
 injection h2 with h2 _
 injection h2 with h2
 exact x0 (by omega) (by omega)
theorem ipair_eqD {a b:Addr} (hb:H b=some (iT q')) (ha:H a=some (iT q)):EqD K H 1 (.ref b) (.ref a) (decide (q'=q)):=by
 by_cases e:b=a
 ·subst e;rw [hb] at ha;have:q'=q:=qeo ha;rw [yG this];exact .self
 ·have z:=EqT.tup (K:=K) (H:=H) (n:=0) (e:=fun j=>if j=0 then eqV (iV q'.1) (iV q.1) else eqV (iV q'.2) (iV q.2)) (SqT.of hb) (SqT.of ha) fun j x y hx hy=>by
   match j,hx,hy with
   | 0,hx,hy=>cases hx;cases hy;exact .flat rfl rfl
   | 1,hx,hy=>cases hx;cases hy;exact .flat rfl rfl
   | n + 2,hx,hy=>simp at hx
  have ee:((List.range (min [iV q'.1,iV q'.2].length [iV q.1,iV q.2].length)).all (fun j=>if j=0 then eqV (iV q'.1) (iV q.1) else eqV (iV q'.2) (iV q.2))&&[iV q'.1,iV q'.2].length==[iV q.1,iV q.2].length)=decide (q'=q):=by
   have e1:eqV (iV q'.1) (iV q.1)=decide (q'.1=q.1):=by
    have:=j8 (q'.1:Int) (q.1:Int);rw [yC (by decide)] at this;rw [this];exact Yp.mpr (by omega)
   have e2:eqV (iV q'.2) (iV q.2)=decide (q'.2=q.2):=by
    have:=j8 (q'.2:Int) (q.2:Int);rw [yC (by decide)] at this;rw [this];exact Yp.mpr (by omega)
   show ((if (0:Nat)=0 then eqV (iV q'.1) (iV q.1) else eqV (iV q'.2) (iV q.2))&&((if (1:Nat)=0 then eqV (iV q'.1) (iV q.1) else eqV (iV q'.2) (iV q.2))&&true)&&true)=_;rw [yF rfl,yC (by decide),e1,e2,Bool.and_true,Bool.and_true];rw [Yq,Ye,yR,yR,yR];exact ⟨fun h=>x0 h.1 h.2,fun h=>by rw [h];exact ⟨rfl,rfl⟩⟩
  rw [ee] at z;exact .deep z e
theorem ipl_nin {a:Addr} {TI:List (Nat×Nat)} {q0:Nat×Nat} {Q:VK} (h:IPL H l ts TI) (ha:H a=some (iT q0)) (q:Q (.bl (!decide (q0∈TI))) H):qev K true (.ref a) (.ref l) H Q:=by
 classical
 refine .inr (.inr ⟨l,ts.map V.ref,fun z=>decide (∃ t,z=.ref t/\H t=some (iT q0)),1,rfl,SqL.of h.1,by decide,fun z hz=>?_,?_⟩)
 ·obtain ⟨b,hb,rfl⟩:=yQ.mp hz;obtain ⟨q',_,r⟩:=h.2.mem hb;have e:=ipair_eqD (K:=K) r ha
  have ee:decide (∃ t,V.ref b=.ref t/\H t=some (iT q0))=decide (q'=q0):=by
   apply Yp.mpr;constructor
   ·rintro ⟨t,e1,e2⟩;cases e1;rw [r] at e2;exact qeo e2
   ·rintro rfl;exact ⟨b,rfl,r⟩
  show EqD K H 1 (.ref b) (.ref a) (decide (∃ t,V.ref b=.ref t/\H t=some (iT q0)));rw [ee];exact e
 ·have e:((ts.map V.ref).any fun z=>decide (∃ t,z=.ref t/\H t=some (iT q0)))=decide (q0∈TI):=by
   rw [Yq,YX,yR];constructor
   ·rintro ⟨z,hz,e⟩;obtain ⟨t,ht,rfl⟩:=yQ.mp hz;obtain ⟨q',hq',r⟩:=h.2.mem ht;obtain ⟨t',e1,e2⟩:=yk e;cases e1;rw [r] at e2;have:q'=q0:=qeo e2;rw [<- this];exact hq'
   ·intro hm;obtain ⟨k,hk,e⟩:=Xq hm;have hk':k < ts.length:=by rw [h.2.len];exact hk
    have r:=h.2.at_ k ts[k] TI[k] (yb hk') (yb hk);exact ⟨.ref ts[k],yQ.mpr ⟨_,Y0 hk',rfl⟩,yG ⟨ts[k],rfl,by rw [r,e]⟩⟩
  rw [yF rfl,e];exact q
noncomputable def TJ (m:Nat) (TI:List (Nat×Nat)):Prop:=TI.length<=30/\(∀ q∈TI,q.1 < q.2/\q.2 < m)/\TI.Nodup
inductive spTsJ (vs:List V) (H:Hp) (Q:VK) (E:XK):Prop|mk (p:Addr) (m:Nat) (_:vs=[.ref p,.int (m:Int)]) (_:Pu H p) (_:m<=14) (_:∀ (l:Addr) (ts:List Addr) (TI:List (Nat×Nat)) (H':Hp),But p H H'->Pu H' p->H l=none->l≠p->IPL H' l ts TI->TJ m TI->Q (.ref l) H')
theorem IPL.butJ {TI:List (Nat×Nat)} (h:IPL H l ts TI) (b:But p H H') (hp:Pu H p) (hl:l≠p):IPL H' l ts TI:=
 ⟨b _ _ hl h.1,h.2.mono fun t q z=>b _ _ (fun e=>by obtain ⟨x,y,c,e2,_⟩:=hp;rw [e,e2] at z;cases z) z⟩
theorem ok_tsJ (F:Fun K "_law_ties" "_law_ties" qbe f fd) (T:Txt K mg cc cw) (kW:DefOk P w K mg base CX0 1 "_law_take" ["_law_purse_here","_law_many_here"] spTkP):FnOk P w K mg base CX0 2 f fd ["_law_purse_here","_law_many_here"] spTsJ:=by
 refine F.ok Kn fun _ _ _ _ H vs Q E hr h=>?_
 ·obtain ⟨p,m,rfl,hB,hm,q⟩:=h;have hu:=jP hr;obtain ⟨TC102,hTC102⟩:∃ t0:TS,t0=fun D σ J=>∃ (l t:Addr) (way thin:Nat) (vd vk:Int) (ts:List Addr) (TI:List (Nat×Nat)) (q0:Nat×Nat),σ=[some (.ref p),some (.int (m:Int)),some (.int (way:Int)),some (.int (thin:Int)),some (.ref l),some (.int vd),some (.int vk),some (.ref t)]/\But p H J/\Pu J p/\H l=none/\l≠p/\IPL J l ts TI/\TJ m TI/\J t=some (iT q0)/\q0.2 < m/\0 < thin/\thin<=4 /\
   ∀ (J':Hp) (ts':List Addr) (TI':List (Nat×Nat)),But p H J'->Pu J' p->IPL J' l ts' TI'->TJ m TI'->D.nx [some (.ref p),some (.int (m:Int)),some (.int (way:Int)),some (.int (thin:Int)),some (.ref l),some (.int vd),some (.int vk),some (.ref t)] J':=⟨_,rfl⟩
  refine ⟨_,(qc (qj (i:=2) Kn.nd rfl (yE rfl) (qk kW (hmR hr) qw (qa (pv 0) (qa qh qd))))
 (qc (qj (i:=3) Kn.nd rfl (yE rfl) (qr (qt (K:=K) rfl hu) (qM (qa qh (qa qh (qa qh (qa qh (qa qh (qa qh qd))))))) (qk kW (hmR hr) qw (qa (pv 0) (qa qh qd))) (fun _ _=>rfl)))
 (qc (qj (i:=4) Kn.nd rfl (yE rfl) (qM qd))
 (qc (ji yV rfl (pi_range2 rfl T.b_range (qa qh (qa (pv 1) qd))) (qq (i:=5) Kn.nd rfl (yE rfl))
 (qe (ji yV rfl (js rfl T.b_range (qa (qx qbl (pv 1) (pv 5)) qd)) (qq (i:=6) Kn.nd rfl (yE rfl))
 (qc (qj (i:=7) Kn.nd rfl (yE rfl) (qr (qt (K:=K) rfl hu) (qM (qa (jA (qa (pv 6) (qa (qx (j3 (K:=K) rfl) (pv 6) (pv 5)) qd))) (qa (jA (qa (qx qbl (pv 5) qh) (qa (qx (j3 (K:=K) rfl) (pv 5) (pv 6)) qd))) (qa (jA (qa (qx ze (pv 5) qh) (qa (qx (j3 (K:=K) rfl) (pv 6) (pv 5)) qd))) (qa (jA (qa (pv 6) (qa (qx (j3 (K:=K) rfl) (pv 6) (pv 5)) qd))) qd))))) (pv 2) (fun _ _=>rfl)))
 (qc (qT (qo (zO (K:=K) rfl hu) (pv 2) qh (qB _)) (qe (qj (i:=7) Kn.nd rfl (yE rfl) (jA (qa (qk kW (hmR hr) qw (qa (pv 0) (qa (pv 5) qd))) (qa (pv 5) qd))))) qv)
 (qen TC102 (qe (qT (PW.pt (qbj (qo qcX (qr (qt (K:=K) rfl hu) (pv 7) qh (fun _ _=>rfl)) (qr (qt (K:=K) rfl hu) (pv 7) qh (fun _ _=>rfl)) (qB _)) (qbj (qo (zg (K:=K) rfl hu) (pv 7) (pv 4) (by with_unfolding_all rfl)) (qbj (qo qcX (qp (jI (K:=K) rfl) rfl T.b_len YA (qa (pv 4) qd)) qh (qB _)) (qbX (qo (zO (K:=K) rfl hu) (qk kW (hmR hr) qw (qa (pv 0) (qa (pv 3) qd))) qh (qB _))))))) (qe (qL (qaW (K:=K) rfl yD y0 Yb qI (pv 4) (qa (pv 7) qd)))) qv)) ?cut102))))))
 (qe (qm (pv 4))))))),?_⟩
  case cut102 =>
   intro D σ J h;rw [hTC102] at h;obtain ⟨l,t,way,thin,vd,vk,ts,TI,q0,rfl,bJ,hBJ,hl0,hlp,hI,hTJ,ht,hq,th0,th4,nx⟩:=h;ext;refine .inl (.inr (.inl ⟨t,_,_,_,rfl,rfl,SqT.of ht,rfl,?_⟩));ext;refine .inl (.inr (.inl ⟨t,_,_,_,rfl,rfl,SqT.of ht,rfl,?_⟩));ext;refine qP (fun h1=>?_) (fun h1=>?_)
   ·have h1':q0.1 < q0.2:=by have:=yk h1;omega
    ext;refine ipl_nin hI ht ?_;ext;refine qP (fun h2=>?_) (fun h2=>?_)
    ·have h2':q0∉TI:=by simpa using h2
     ext;refine zd hI.1 ?_;rw [ya,hI.2.len];ext;refine qP (fun h3=>?_) (fun h3=>?_)
     ·have h3':TI.length < 30:=by have:=yk h3;omega
      ext;refine ⟨p,thin,rfl,hBJ,th0,by omega,fun d2 J2 hd2 b2 hB2=>?_⟩;have hI2:=hI.butJ b2 hBJ hlp;have ht2:J2 t=some (iT q0):=b2 _ _ (fun e=>by obtain ⟨x,y,c,e2,_⟩:=hBJ;rw [e,e2] at ht;cases ht) ht;have b3:=bJ.trans7 b2;ext;refine qdc ?_;ext;refine qP (fun h4=>?_) (fun h4=>?_)
      ·ext;refine ⟨.inl ⟨rfl,_,.of hI2.1⟩,?_⟩;ext;refine ⟨l,_,_,rfl,rfl,hI2.1,by rw [ya,hI.2.len];exact qi (by omega),?_⟩;have hnt:∀ {c:Addr} {o:HO},J2 c=some o->(∀ xs,o≠.lst xs)->c≠l:=fun e hne z=>by rw [z,hI2.1] at e;cases e;exact hne _ rfl
       ext;refine nx _ (ts++[t]) (TI++[q0]) (fun c u n e=>by rw [qf (fun z=>by rw [z,hl0] at e;cases e)];exact b3 c u n e) (by obtain ⟨x,y,c,e2,r⟩:=hB2;exact ⟨x,y,c,by rw [qf (Yn hlp)];exact e2,r⟩) ⟨by rw [qb,yu];rfl,All2.snoc (hI2.2.mono fun t' q z=>?_) ?_⟩ ⟨by rw [yt];show TI.length + 1<=30;omega,fun q hq=>?_,?_⟩
       ·rw [qf (hnt z fun xs e=>by cases e)];exact z
       ·rw [qf (hnt ht2 fun xs e=>by cases e)];exact ht2
       ·rcases yz.mp hq with z | z
        ·exact hTJ.2.1 q z
        ·rw [yy.mp z];exact ⟨h1',by assumption⟩
       ·exact Yg.mpr ⟨hTJ.2.2,Y9 _ _,fun a ha b hb e=>by rw [yy.mp hb] at e;exact h2' (e ▸ ha)⟩
      ·ext;exact nx _ ts TI b3 hB2 hI2 hTJ
     ·ext;exact nx _ ts TI bJ hBJ hI hTJ
    ·ext;exact nx _ ts TI bJ hBJ hI hTJ
   ·ext;exact nx _ ts TI bJ hBJ hI hTJ
  ext;refine ⟨p,4,rfl,hB,by decide,by decide,fun way H1 hw b1 hB1=>?_⟩;ext;refine ⟨by show 6<=sizeLine;decide,fun m2 hm2=>?_⟩;have hmp:=hB1.apart hm2;obtain ⟨xs,hxs⟩:∃ xs:List Nat,xs=[1,1,2,2,3,4]:=⟨_,rfl⟩
  have hx1:∀ x∈xs,0 < x/\x<=4:=fun x hx=>by
   rw [hxs] at hx;simp only [yB,yY,YB] at hx;omega
  have hx6:xs.length=6:=by rw [hxs];rfl
  have b2:=b1.new7 (o:=.lst (xs.map iV)) hm2;have em:upd H1 m2 (.lst (xs.map iV)) m2=some (.lst (xs.map iV)):=qb;have hB2:Pu (upd H1 m2 (.lst (xs.map iV))) p:=hB1.new hm2;have eu:upd H1 m2 (.lst [V.int 1,V.int 1,V.int 2,V.int 2,V.int 3,V.int 4])=upd H1 m2 (.lst (xs.map iV)):=by rw [hxs];rfl
  rw [eu];generalize upd H1 m2 (.lst (xs.map iV))=H2 at b2 em hB2;ext;refine ⟨p,6,rfl,hB2,by decide,by decide,fun d H3 hd b3 hB3=>?_⟩;obtain ⟨thin,hth⟩:∃ st,xs[d]?=some st:=⟨_,yb (by omega)⟩;have hth2:=hx1 thin (ye hth);refine .inl (qae (b3 _ _ hmp em) (v:=iV thin) (qy (by rw [yd,hth];rfl)) ?_);have b03:=b2.trans7 b3;ext;refine ⟨by show 0<=sizeLine;decide,fun l hl=>?_⟩;have hlp:=hB3.apart hl;have hl0:=b03.free7 hlp hl;have b4:=b03.new7 (o:=.lst []) hl;have hB4:Pu (upd H3 l (.lst [])) p:=hB3.new hl;have hI4:IPL (upd H3 l (.lst [])) l [] []:=⟨qb,.nil⟩;generalize upd H3 l (.lst [])=H4 at b4 hB4 hI4;ext;refine vRng2 ?_;ext;refine ⟨_,_,rfl,⟨by decide,by decide,by omega,by omega⟩,?_⟩;rw [show ((m:Int) - 1).toNat=m - 1 by omega];refine zw (lo:=1) (n:=m - 1) (fun i σ J=>But p H J/\Pu J p/\∃ (ts:List Addr) (TI:List (Nat×Nat)) (y5 y6 y7:Option V),σ=[some (.ref p),some (.int (m:Int)),some (.int (way:Int)),some (.int (thin:Int)),some (.ref l),y5,y6,y7]/\IPL J l ts TI/\TJ m TI) ⟨b4,hB4,[],[],_,_,_,rfl,hI4,by decide,fun q hq=>(by cases hq),.nil⟩ (fun i σ J hi hp=>?_) fun σ J hp=>?_
  ·obtain ⟨bJ,hBJ,ts,TI,y5,y6,y7,rfl,hI,hTJ⟩:=hp;ext;refine ⟨_,rfl,by omega,by omega,?_⟩;rw [show ((m:Int) - (1 + (i:Int))).toNat=m - (1 + i) by omega];refine zw (lo:=0) (n:=m - (1 + i)) (fun k σ J=>But p H J/\Pu J p/\∃ (ts:List Addr) (TI:List (Nat×Nat)) (y6 y7:Option V),σ=[some (.ref p),some (.int (m:Int)),some (.int (way:Int)),some (.int (thin:Int)),some (.ref l),some (.int (1 + (i:Int))),y6,y7]/\IPL J l ts TI/\TJ m TI) ⟨bJ,hBJ,ts,TI,_,_,rfl,hI,hTJ⟩ (fun k σ J hk hp=>?_) fun σ J hp=>?_
   ·obtain ⟨bJ,hBJ,ts,TI,y6,y7,rfl,hI,hTJ⟩:=hp;rw [xX];ext;refine ⟨by show 2<=sizeLine;decide,fun t1 ht1=>?_⟩;have s1:=qF (Sr J) (o:=.tup [.int ((k:Int)),.int ((k:Int) + (1 + (i:Int)))]) ht1
    have et1:upd J t1 (.tup [.int ((k:Int)),.int ((k:Int) + (1 + (i:Int)))]) t1=some (iT (k,k + (1 + i))):=by
     rw [qb];show _=some (HO.tup [V.int ((k:Nat):Int),V.int ((k + (1 + i):Nat):Int)]);rw [show ((k:Nat):Int)=(k:Int) by omega,show ((k + (1 + i):Nat):Int)=(k:Int) + (1 + (i:Int)) by omega]
    generalize upd J t1 (.tup [.int ((k:Int)),.int ((k:Int) + (1 + (i:Int)))])=J1 at s1 et1;ext;refine ⟨by show 2<=sizeLine;decide,fun t2 ht2=>?_⟩;have s2:=qF (Sr J1) (o:=.tup [.int (1 + (i:Int) - 1),.int (1 + (i:Int) + (k:Int))]) ht2
    have et2:upd J1 t2 (.tup [.int (1 + (i:Int) - 1),.int (1 + (i:Int) + (k:Int))]) t2=some (iT (1 + i - 1,1 + i + k)):=by
     rw [qb];show _=some (HO.tup [V.int ((1 + i - 1:Nat):Int),V.int ((1 + i + k:Nat):Int)]);rw [show ((1 + i - 1:Nat):Int)=1 + (i:Int) - 1 by omega,show ((1 + i + k:Nat):Int)=1 + (i:Int) + (k:Int) by omega]
    generalize upd J1 t2 (.tup [.int (1 + (i:Int) - 1),.int (1 + (i:Int) + (k:Int))])=J2 at s2 et2;ext;refine vI (by decide) ?_;ext;refine ⟨by show 2<=sizeLine;decide,fun t3 ht3=>?_⟩;have s3:=qF (Sr J2) (o:=.tup [.int ((1 + (i:Int)) % 3),.int ((k:Int) + (1 + (i:Int)))]) ht3
    have et3:upd J2 t3 (.tup [.int ((1 + (i:Int)) % 3),.int ((k:Int) + (1 + (i:Int)))]) t3=some (iT ((1 + i) % 3,k + (1 + i))):=by
     rw [qb];show _=some (HO.tup [V.int (((1 + i) % 3:Nat):Int),V.int ((k + (1 + i):Nat):Int)]);rw [show (((1 + i) % 3:Nat):Int)=(1 + (i:Int)) % 3 by omega,show ((k + (1 + i):Nat):Int)=(k:Int) + (1 + (i:Int)) by omega]
    generalize upd J2 t3 (.tup [.int ((1 + (i:Int)) % 3),.int ((k:Int) + (1 + (i:Int)))])=J3 at s3 et3;ext;refine ⟨by show 2<=sizeLine;decide,fun t4 ht4=>?_⟩;have s4:=qF (Sr J3) (o:=.tup [.int ((k:Int)),.int ((k:Int) + (1 + (i:Int)))]) ht4
    have et4:upd J3 t4 (.tup [.int ((k:Int)),.int ((k:Int) + (1 + (i:Int)))]) t4=some (iT (k,k + (1 + i))):=by
     rw [qb];show _=some (HO.tup [V.int ((k:Nat):Int),V.int ((k + (1 + i):Nat):Int)]);rw [show ((k:Nat):Int)=(k:Int) by omega,show ((k + (1 + i):Nat):Int)=(k:Int) + (1 + (i:Int)) by omega]
    generalize upd J3 t4 (.tup [.int ((k:Int)),.int ((k:Int) + (1 + (i:Int)))])=J4 at s4 et4;ext;refine ⟨by show 4<=sizeLine;decide,fun g hg=>?_⟩;have s5:=qF (Sr J4) (o:=.lst [.ref t1,.ref t2,.ref t3,.ref t4]) hg;have eg:upd J4 g (.lst [.ref t1,.ref t2,.ref t3,.ref t4]) g=some (.lst [.ref t1,.ref t2,.ref t3,.ref t4]):=qb;generalize upd J4 g (.lst [.ref t1,.ref t2,.ref t3,.ref t4])=J5 at s5 eg;have s05:=(((s1.trans s2).trans s3).trans s4).trans s5
    obtain ⟨t,q0,hgt,ht,hq0⟩:∃ (t:Addr) (q0:Nat×Nat),[V.ref t1,V.ref t2,V.ref t3,V.ref t4][way]?=some (.ref t)/\J5 t=some (iT q0)/\q0.2 < m:=by
     have e1:=s5 _ _ (s4 _ _ (s3 _ _ (s2 _ _ et1)));have e2:=s5 _ _ (s4 _ _ (s3 _ _ et2));have e3:=s5 _ _ (s4 _ _ et3);have e4:=s5 _ _ et4
     match way,hw with
     | 0,_=>exact ⟨t1,_,rfl,e1,by show k + (1 + i) < m;omega⟩
     | 1,_=>exact ⟨t2,_,rfl,e2,by show 1 + i + k < m;omega⟩
     | 2,_=>exact ⟨t3,_,rfl,e3,by show k + (1 + i) < m;omega⟩
     | 3,_=>exact ⟨t4,_,rfl,e4,by show k + (1 + i) < m;omega⟩
    ext;refine .inl (qae eg (qy hgt) ?_);have bJ5:=fun (c:Addr) (o:HO) (n:c≠p) (e:H c=some o)=>s05 _ _ (bJ c o n e);have hBJ5:Pu J5 p:=by obtain ⟨x,y,c,e2,r⟩:=hBJ;exact ⟨x,y,c,s05 _ _ e2,r⟩
    have hI5:=hI.same s05;ext;refine qdc ?_;ext;refine qP (fun h3=>?_) (fun h3=>?_)
    ·ext;refine ⟨p,1 + i,?_,hBJ5,by omega,by omega,fun d2 J6 hd2 b6 hB6=>?_⟩
     ·show [V.ref p,V.int (1 + (i:Int))]=_;rw [show ((1 + i:Nat):Int)=1 + (i:Int) by omega]
     have hI6:=hI5.butJ b6 hBJ5 hlp;ext;refine ⟨by show 2<=sizeLine;decide,fun t6 ht6=>?_⟩;have s67:=qF (Sr J6) (o:=.tup [.int (d2:Int),.int (1 + (i:Int))]) ht6
     have et6:upd J6 t6 (.tup [.int (d2:Int),.int (1 + (i:Int))]) t6=some (iT (d2,1 + i)):=by
      rw [qb];show _=some (HO.tup [V.int (d2:Int),V.int ((1 + i:Nat):Int)]);rw [show ((1 + i:Nat):Int)=1 + (i:Int) by omega]
     have b67:But p H (upd J6 t6 (.tup [.int (d2:Int),.int (1 + (i:Int))])):=(But.trans7 bJ5 b6).new7 ht6;have hB7:Pu (upd J6 t6 (.tup [.int (d2:Int),.int (1 + (i:Int))])) p:=hB6.new ht6;generalize upd J6 t6 (.tup [.int (d2:Int),.int (1 + (i:Int))])=J7 at s67 et6 b67 hB7;ext;rw [hTC102];exact ⟨l,t6,way,thin,_,_,ts,TI,(d2,1 + i),rfl,b67,hB7,hl0,hlp,hI6.same s67,hTJ,et6,by show 1 + i < m;omega,hth2.1,hth2.2,fun J' ts' TI' h1 h2 h3 h4=>⟨h1,h2,ts',TI',_,_,rfl,h3,h4⟩⟩
    ·ext;rw [hTC102];exact ⟨l,t,way,thin,_,_,ts,TI,q0,rfl,bJ5,hBJ5,hl0,hlp,hI5,hTJ,ht,hq0,hth2.1,hth2.2,fun J' ts' TI' h1 h2 h3 h4=>⟨h1,h2,ts',TI',_,_,rfl,h3,h4⟩⟩
   ·obtain ⟨bJ,hBJ,ts,TI,y6,y7,rfl,hI,hTJ⟩:=hp;ext;exact ⟨bJ,hBJ,ts,TI,_,_,_,rfl,hI,hTJ⟩
  ·obtain ⟨bJ,hBJ,ts,TI,y5,y6,y7,rfl,hI,hTJ⟩:=hp;ext;exact q l ts TI J bJ hBJ hl0 hlp hI hTJ
theorem KO:FnScope ["_law_names_here","_law_ties_here","_law_handed","_law_one_here","_law_other"] ["_law_names_here","_law_ties_here"] (qg qbf):=fS
theorem Wt.ir (W:Wt cw H x ss ns tps):∀ a b,tA tps a b->a≠b:=fun a b z e=>by
 rcases z with z | z
 ·exact (W.ok _ z).2.2 e
 ·exact (W.ok _ z).2.2 e.symm
noncomputable def tn (ss:List Str) (i:Nat):Str:=ss.getD i ""
noncomputable def nmP (ss:List Str) (p:Nat×Nat):Str×Str:=(tn ss p.1,tn ss p.2)
theorem qca (h:i < ss.length):ss[i]?=some (tn ss i):=by unfold tn;rw [Yk,yb h];rfl
theorem qcO (h:i < ss.length):tn ss i∈ss:=ye (qca h)
theorem zA (hn:ss.Nodup) (hi:i < ss.length) (hj:j < ss.length) (e:tn ss i=tn ss j):i=j:=qz hn (qca hi) (by rw [e];exact qca hj)
theorem qbK {n:Addr} {Q:VK} (h:H n=some (.lst (ss.map V.str))) (hi:i < ss.length) (q:Q (.str (tn ss i)) H):qfN K (.ref n) (.int (i:Int)) H Q:=
 .inl (qae h (v:=.str (tn ss i)) (qy (by rw [yd,qca hi];rfl)) q)
theorem qdG:∀ {l m:List (Str×Str)},l.Nodup->(∀ x∈l,x∈m)->l.length<=m.length
 | [],_,_,_=>YK _
 | x::r,m,hn,h=>by
  obtain ⟨h1,h2⟩:=yo.mp hn;have hx:=h x yZ;have ih:=qdG (l:=r) (m:=m.erase x) h2 fun y hy=>(XV (fun e=>h1 (by rw [<- e];exact hy))).mpr (h y (yJ _ hy));rw [Y2 hx] at ih;have:0 < m.length:=xm hx;simp only [yA];omega
noncomputable def hdP (ss:List Str) (q:Nat×Nat):Str×Str:=if (q.1 + q.2) % 2=0 then nmP ss q else ((nmP ss q).2,(nmP ss q).1)
theorem qep (ss:List Str) (q:Nat×Nat):hdP ss q=nmP ss q\/hdP ss q=((nmP ss q).2,(nmP ss q).1):=by
 unfold hdP;split
 ·exact .inl rfl
 ·exact .inr rfl
theorem nm_one (hn:ss.Nodup) {p:Nat×Nat} (hp:p.1 < p.2/\p.2 < ss.length) (hq:q.1 < q.2/\q.2 < ss.length) (e:nmP ss p=nmP ss q\/nmP ss p=((nmP ss q).2,(nmP ss q).1)):p=q:=by
 rcases e with e | e
 ·exact x0 (zA hn (by omega) (by omega) (congrArg Prod.fst e)) (zA hn hp.2 hq.2 (congrArg Prod.snd e))
 ·have h1:p.1=q.2:=zA hn (by omega) (by omega) (congrArg Prod.fst e);have h2:p.2=q.1:=zA hn (by omega) (by omega) (congrArg Prod.snd e);omega
theorem qdd (hn:ss.Nodup) {TI:List (Nat×Nat)} (h:TJ ss.length TI):∀ ab∈TI.map (nmP ss),ab.1∈ss/\ab.2∈ss/\ab.1≠ab.2:=fun ab hab=>by
 obtain ⟨q,hq,rfl⟩:=yQ.mp hab;have:=h.2.1 q hq;exact ⟨qcO (by omega),qcO this.2,fun e=>by have:=zA hn (by omega) this.2 e;omega⟩
theorem hd_tgo (hn:ss.Nodup) {TI:List (Nat×Nat)} (h:TJ ss.length TI):TGo ss (TI.map (hdP ss)):=by
 refine ⟨by rw [ya];exact h.1,fun ab hab=>?_,?_⟩
 ·obtain ⟨q,hq,rfl⟩:=yQ.mp hab;obtain ⟨h1,h2,h3⟩:=qdd hn h _ (xL hq);rcases qep ss q with e | e<;>rw [e]
  ·exact ⟨h1,h2,h3⟩
  ·exact ⟨h2,h1,h3.symm⟩
 ·refine YF.mpr (h.2.2.imp_of_mem fun {p q} hp hq hne=>?_);have k:¬ (nmP ss p=nmP ss q\/nmP ss p=((nmP ss q).2,(nmP ss q).1)):=fun e=>hne (nm_one hn (h.2.1 p hp) (h.2.1 q hq) e);have sw:∀ {x y:Str×Str},(x.2,x.1)=y->x=(y.2,y.1):=fun {x y} e=>by rw [<- e]
  rcases qep ss p with e | e<;>rcases qep ss q with e' | e'<;>refine ⟨fun z=>k ?_,fun z=>k ?_⟩<;>rw [e,e'] at z
  ·exact .inl z
  ·exact .inr z
  ·exact .inr z
  ·exact .inl z
  ·exact .inr (sw z)
  ·exact .inl (sw z)
  ·exact .inl (sw z)
  ·exact .inr (sw z)
theorem hd_tA {TI:List (Nat×Nat)}:tA (TI.map (hdP ss)) a b↔tA (TI.map (nmP ss)) a b:=by
 have k:∀ {a b:Str},(a,b)∈TI.map (hdP ss)->tA (TI.map (nmP ss)) a b:=fun {a b} h=>by
  obtain ⟨q,hq,e⟩:=yQ.mp h;have m:nmP ss q∈TI.map (nmP ss):=xL hq;rcases qep ss q with z | z<;>rw [z] at e
  ·rw [e] at m;exact .inl m
  ·have:nmP ss q=(b,a):=x0 (congrArg Prod.snd e) (congrArg Prod.fst e);rw [this] at m;exact .inr m
 have k':∀ {a b:Str},(a,b)∈TI.map (nmP ss)->tA (TI.map (hdP ss)) a b:=fun {a b} h=>by
  obtain ⟨q,hq,e⟩:=yQ.mp h;have m:hdP ss q∈TI.map (hdP ss):=xL hq;rcases qep ss q with z | z<;>rw [z,e] at m
  ·exact .inl m
  ·exact .inr m
 exact ⟨fun h=>h.elim k fun z=>(k z).symm,fun h=>h.elim k' fun z=>(k' z).symm⟩
theorem tj_few {TI:List (Nat×Nat)} (hw:WOk ss ns) (hA:Adj ss ns (TI.map (nmP ss))) (hT:TJ ss.length TI):(qR ss ns ss.length).length<=30:=by
 refine yi (qdG (m:=TI.map (nmP ss)) (qel hw) fun ab h=>?_) (by rw [ya];exact hT.1);obtain ⟨z,i,j,hij,hi,hj⟩:=(zc hw hA (a:=ab.1) (b:=ab.2)).mp h;rcases z with z | z
 ·exact z
 ·obtain ⟨q,hq,e⟩:=yQ.mp z;have hq':=hT.2.1 q hq;have e1:tn ss q.1=ab.2:=congrArg Prod.fst e;have e2:tn ss q.2=ab.1:=congrArg Prod.snd e;have:=qz hw.nd (by rw [<- e1];exact qca (by omega)) hj;have:=qz hw.nd (by rw [<- e2];exact qca hq'.2) hi;omega
theorem wt_new {y:Addr} (h:WebN H0 cw H y ss ns) (hb:qbA ss ns kps) (g:TGo ss kps):Wt cw H y ss ns kps:=
 ⟨h.web,fun a b s t ha hb'=>by rw [hb.2.2 a b s t ha hb',yR],g.inn⟩
theorem Wt.to {y:Addr} (h:Wt cw H y ss ns kps) (ok:∀ ab∈tps,ab.1∈ss/\ab.2∈ss/\ab.1≠ab.2) (e:∀ a b,a∈ss->b∈ss->(tA kps a b↔tA tps a b)):Wt cw H y ss ns tps:=
 ⟨h.web,fun a b s t ha hb=>(h.adj a b s t ha hb).trans (e s t (ye ha) (ye hb)),ok⟩
theorem WebN.older (h:WebN H1 cw H x ss ns) (s:L2.Same H0 H1):WebN H0 cw H x ss ns:=by
 obtain ⟨wx,d,ol,n,h1,h2,h3,h4,h5,h6,h7,h8⟩:=h;exact ⟨wx,d,ol,n,h1,h2,h3,h4,h5,s.free h6,s.free h7,s.free h8⟩
inductive spMdJ (cw:Addr) (vs:List V) (H:Hp) (Q:VK) (E:XK):Prop|mk (n l:Addr) (ss:List Str) (ts:List Addr) (TI:List (Nat×Nat)) (_:vs=[.ref n,.ref l]) (_:H n=some (.lst (ss.map V.str))) (_:NOk ss) (_:IPL H l ts TI) (_:TJ ss.length TI) (_:∀ (b:Addr) (ns:List Nat) (H':Hp),L2.Same H H'->H b=none->WebN H cw H' b ss ns->Wt cw H' b ss ns (TI.map (nmP ss))->Q (.ref b) H')
noncomputable def qbD (ns:List Nat) (a b:Nat):Bool:=(ns.getD a 0).testBit b
noncomputable def BtJ (n:Nat) (TI:List (Nat×Nat)) (bs:List Nat):Prop:=bs.length=n/\(∀ a,bs.getD a 0 < 2 ^ n)/\∀ a b,qbD bs a b=true↔((a,b)∈TI\/(b,a)∈TI)
inductive spBtJ (vs:List V) (H:Hp) (Q:VK) (E:XK):Prop|mk (l:Addr) (n:Nat) (ts:List Addr) (TI:List (Nat×Nat)) (_:vs=[.int (n:Int),.ref l]) (_:n<=14) (_:IPL H l ts TI) (_:TJ n TI) (_:∀ (b:Addr) (bs:List Nat) (H':Hp),L2.Same H H'->H b=none->H' b=some (.lst (qau bs))->BtJ n TI bs->Q (.ref b) H')
theorem qcb {m:Addr} {l:List Str} {Q:VK} (e:H m=some (.lst (l.map V.str))) (q:Q (.bl (decide (s∈l))) H):qev K false (.str s) (.ref m) H Q:=
 .inl ⟨m,_,rfl,.inl (SqL.of e),rfl,flat_strs l,by rw [yC (by decide),qeb];exact q⟩
theorem qfJ {m y:Addr} {Q:VK} (hm:G m=some (.lst (ss.map V.str))) (h14:ss.length<=14) (nd:ss.Nodup) (nm:∀ s∈ss,zG s=true) (hP:PL G l us kps) (hg:TGo ss kps) (hy:G y=none) (hd:G dx=none) (hne:dx≠y)
  (h:∀ ns H2,L2.Same G H2->WebN G cw H2 y ss ns->Wt cw H2 y ss ns kps->Q .non H2):spWeb cw [.ref y,.ref m,.ref l] (upd (upd G dx (.own y)) y (.ins cw dx [])) Q E:=by
 have s2:=qF (qF (Sr G) (o:=.own y) hd) (o:=.ins cw dx []) (show upd G dx (.own y) y=none by rw [qf (Yn hne)];exact hy);refine ⟨y,dx,m,l,ss,us,kps,rfl,qb,s2 _ _ hm,h14,nd,nm,hP.same s2,hg,fun ns H' b hN hB=>?_⟩
 have hN':WebN G cw H' y ss ns:=by
  obtain ⟨wx,d,ol,n,h1,h2,h3,h4,h5,h6,h7,h8⟩:=hN
  have k:∀ c,upd (upd G dx (.own y)) y (.ins cw dx []) c=none->G c=none:=fun c z=>by
   cases e:G c with
   | none=>rfl
   | some o=>rw [s2 _ _ e] at z;cases z
  exact ⟨wx,d,ol,n,h1,h2,h3,h4,h5,k _ h6,k _ h7,k _ h8⟩
 refine h ns H' (fun c o e=>b c o (fun z=>by rw [z,hy] at e;cases e) (s2 _ _ e)) hN' (wt_new hN' hB hg)
theorem ok_mdJ (F:Fun K "_law_made" "_law_made" qbf f fd) (T:Txt K mg cc cw) (uX:MakeOk P w K mg base CX0 5 cw "Web" ["self","names","ties"] (spWeb cw)):FnOk P w K mg base CX0 7 f fd ["_law_names_here","_law_ties_here"] (spMdJ cw):=by
 refine F.ok KO fun _ _ _ _ H vs Q E hr h=>?_
 ·obtain ⟨n,l,ss,ts,TI,rfl,hn,hO,hI,hT,q⟩:=h;have hu:=jP hr;refine ⟨_,(qc (qj (i:=2) KO.nd rfl (yE rfl) (qM qd))
 (qc (ji yV rfl (qdy (K:=K) rfl (pv 1)) (qbM rfl (jw (qq (i:=3) KO.nd rfl (yE rfl)) (jw (qq (i:=4) KO.nd rfl (yE rfl)) qaT)))
 (qe (qL (qaW (K:=K) rfl yD y0 Yb qI (pv 2) (qa (qr (qt (K:=K) rfl hu) (qM (qa (jA (qa (qr (qt (K:=K) rfl hu) (pv 0) (pv 3) (fun _ _=>rfl)) (qa (qr (qt (K:=K) rfl hu) (pv 0) (pv 4) (fun _ _=>rfl)) qd))) (qa (jA (qa (qr (qt (K:=K) rfl hu) (pv 0) (pv 4) (fun _ _=>rfl)) (qa (qr (qt (K:=K) rfl hu) (pv 0) (pv 3) (fun _ _=>rfl)) qd))) qd))) (qx ze (qx (j3 (K:=K) rfl) (pv 3) (pv 4)) qh) (fun _ _=>rfl)) qd)))))
 (qe (qm (qaE uX (hmR hr) (qa (zQ (qbx (K:=K) rfl rfl) rfl T.b_list Xa (qa (pv 0) qd)) (qa (pv 2) qd))))))),?_⟩
  ext;refine ⟨by show 0<=sizeLine;decide,fun h hh0=>?_⟩;have s1:=qF (Sr H) (o:=.lst []) hh0;have eh:upd H h (.lst []) h=some (.lst []):=qb;generalize upd H h (.lst [])=H1 at s1 eh;ext;refine qeD ?_;ext;have hh:H h=none:=hh0;refine ⟨l,_,rfl,.of (s1 _ _ hI.1),qV (xs:=ts.map V.ref) (fun i σ J=>L2.Same H J/\∃ (us:List Addr) (y3 y4:Option V),σ=[some (.ref n),some (.ref l),some (.ref h),y3,y4]/\J h=some (.lst (us.map V.ref))/\All2 (fun t ab=>J t=some (.tup [.str ab.1,.str ab.2])) us ((TI.take i).map (hdP ss))) ⟨s1,[],_,_,rfl,eh,.nil⟩ (fun i σ J _ hp=>.of (hp.1 _ _ hI.1)) (fun i x σ J hx hp=>?_) fun σ J hp=>?_⟩
  ·obtain ⟨sJ,us,y3,y4,rfl,eJ,hA⟩:=hp;rw [yd] at hx;obtain ⟨u,hu2,rfl⟩:=yn.mp hx;have hi:i < TI.length:=by rw [<- hI.2.len];exact (yc.mp hu2).1
   obtain ⟨q0,hq0⟩:∃ q0,TI[i]?=some q0:=⟨_,yb hi⟩;have hup:=sJ _ _ (hI.2.at_ i u q0 hu2 hq0);have hq:=hT.2.1 q0 (ye hq0);have hnJ:=sJ _ _ hn;have h30:=hT.1;refine ⟨u,_,rfl,.of hup,rfl,_,_,rfl,_,_,rfl,rfl,?_⟩;ext;refine ⟨.inl ⟨rfl,_,.of eJ⟩,?_⟩;ext;refine qbK hnJ (by omega) ?_;ext;refine qbK hnJ hq.2 ?_;ext;refine ⟨by show 2<=sizeLine;decide,fun t1 ht1=>?_⟩;have s2:=qF (Sr J) (o:=.tup [.str (tn ss q0.1),.str (tn ss q0.2)]) ht1;have et1:upd J t1 (.tup [.str (tn ss q0.1),.str (tn ss q0.2)]) t1=some (.tup [.str (tn ss q0.1),.str (tn ss q0.2)]):=qb;generalize upd J t1 (.tup [.str (tn ss q0.1),.str (tn ss q0.2)])=J2 at s2 et1;ext;refine qbK (s2 _ _ hnJ) hq.2 ?_;ext;refine qbK (s2 _ _ hnJ) (by omega) ?_;ext;refine ⟨by show 2<=sizeLine;decide,fun t2 ht2=>?_⟩;have s3:=qF (Sr J2) (o:=.tup [.str (tn ss q0.2),.str (tn ss q0.1)]) ht2;have et2:upd J2 t2 (.tup [.str (tn ss q0.2),.str (tn ss q0.1)]) t2=some (.tup [.str (tn ss q0.2),.str (tn ss q0.1)]):=qb;generalize upd J2 t2 (.tup [.str (tn ss q0.2),.str (tn ss q0.1)])=J3 at s3 et2;ext;refine ⟨by show 2<=sizeLine;decide,fun g hg=>?_⟩;have s4:=qF (Sr J3) (o:=.lst [.ref t1,.ref t2]) hg;have eg:upd J3 g (.lst [.ref t1,.ref t2]) g=some (.lst [.ref t1,.ref t2]):=qb;generalize upd J3 g (.lst [.ref t1,.ref t2])=J4 at s4 eg;ext;refine vI (by decide) ?_
   obtain ⟨t,hgt,ht⟩:∃ t,atI [V.ref t1,V.ref t2] (((q0.1:Int) + (q0.2:Int)) % 2)=some (.ref t)/\J4 t=some (.tup [.str (hdP ss q0).1,.str (hdP ss q0).2]):=by
    by_cases h0:(q0.1 + q0.2) % 2=0
    ·rw [show ((q0.1:Int) + (q0.2:Int)) % 2=((0:Nat):Int) by omega];refine ⟨t1,qy rfl,?_⟩;unfold hdP;rw [yF h0];exact s4 _ _ (s3 _ _ et1)
    ·rw [show ((q0.1:Int) + (q0.2:Int)) % 2=((1:Nat):Int) by omega];refine ⟨t2,qy rfl,?_⟩;unfold hdP;rw [yC h0];exact s4 _ _ et2
   refine .inl (qae eg hgt ?_);have s24:=(s2.trans s3).trans s4;have e4:=s24 _ _ eJ;ext;have hlen:us.length<=30:=by rw [hA.len,ya,yL];omega
   refine ⟨h,_,_,rfl,rfl,e4,by rw [ya];exact qi (by omega),?_⟩;have hnt:∀ {c:Addr} {o:HO},J4 c=some o->(∀ xs,o≠.lst xs)->c≠h:=fun e hne z=>by rw [z,e4] at e;cases e;exact hne _ rfl
   refine ⟨fun c o e=>?_,us++[t],_,_,rfl,by rw [qb,yu];rfl,?_⟩
   ·rw [qf (fun z=>by rw [z,hh] at e;cases e)];exact (sJ.trans s24) c o e
   ·rw [yH,hq0,yu];refine All2.snoc (hA.mono fun t' ab z=>?_) ?_
    ·rw [qf (hnt (s24 _ _ z) fun xs e=>by cases e)];exact s24 _ _ z
    ·rw [qf (hnt ht fun xs e=>by cases e)];exact ht
  ·obtain ⟨sJ,us,y3,y4,rfl,eJ,hA⟩:=hp;have e:(ts.map V.ref).length=TI.length:=by rw [ya,hI.2.len]
   rw [e,yM] at hA;ext;refine .inl ⟨n,_,rfl,.inl (.of (sJ _ _ hn)),fun c1 hc1=>?_⟩;have s2:=qF (Sr J) (o:=.lst (ss.map V.str)) hc1;have ec:upd J c1 (.lst (ss.map V.str)) c1=some (.lst (ss.map V.str)):=qb;generalize upd J c1 (.lst (ss.map V.str))=J2 at s2 ec;ext;refine fun x' dx' hx0 hdx0 hne=>?_;exact qfJ ec hO.few hO.nd hO.nm ⟨s2 _ _ eJ,hA.mono fun t ab z=>s2 _ _ z⟩ (hd_tgo hO.nd hT) hx0 hdx0 hne fun ns H3 s3 hWN hWt=>⟨rfl,q x' ns H3 ((sJ.trans s2).trans s3) ((sJ.trans s2).free hx0) (hWN.older (sJ.trans s2)) (hWt.to (qdd hO.nd hT) fun a b _ _=>hd_tA)⟩
theorem KP:FnScope ["_law_many_here","_law_ties_here","_law_found","_law_one_here","_law_other"] ["_law_many_here","_law_ties_here"] (qg qbg):=fS
theorem btJ_zero (n:Nat):BtJ n [] (List.replicate n 0):=by
 have z:∀ a,(List.replicate n 0).getD a 0=0:=fun a=>by
  rw [Yk,xN];split<;>rfl
 refine ⟨YD,fun a=>by rw [z a];exact Nat.two_pow_pos n,fun a b=>?_⟩;unfold qbD;rw [z a];simp
theorem btJ_put {TI:List (Nat×Nat)} {bs:List Nat} (h:BtJ n TI bs) (hq:q.1 < q.2/\q.2 < n):BtJ n (TI++[q]) ((bs.set q.1 (bs.getD q.1 0 ||| 2 ^ q.2)).set q.2 (bs.getD q.2 0 ||| 2 ^ q.1)):=by
 obtain ⟨hl,hb,ht⟩:=h;have l1:q.1 < bs.length:=by omega
 have l2:q.2 < (bs.set q.1 (bs.getD q.1 0 ||| 2 ^ q.2)).length:=by rw [xx];omega
 have hne:q.1≠q.2:=by omega
 have g:∀ a,((bs.set q.1 (bs.getD q.1 0 ||| 2 ^ q.2)).set q.2 (bs.getD q.2 0 ||| 2 ^ q.1)).getD a 0=if q.2=a then bs.getD q.2 0 ||| 2 ^ q.1 else if q.1=a then bs.getD q.1 0 ||| 2 ^ q.2 else bs.getD a 0:=fun a=>by rw [zj l2,zj l1]
 refine ⟨by rw [xx,xx,hl],fun a=>?_,fun a b=>?_⟩
 ·rw [g a];split
  ·exact Y7 (hb _) (Y5 (by decide) (by omega))
  ·split
   ·exact Y7 (hb _) (Y5 (by decide) hq.2)
   ·exact hb a
 ·have base:=ht a b;unfold qbD at base ⊢;rw [g a,yz,yz,yy,yy];by_cases e2:q.2=a
  ·subst e2;rw [yF rfl,YH,YR,xi,base,yR];constructor
   ·rintro ((z | z) | z)
    ·exact .inl (.inl z)
    ·exact .inr (.inl z)
    ·exact .inr (.inr (by rw [<- z]))
   ·rintro ((z | z) | (z | z))
    ·exact .inl (.inl z)
    ·exact absurd (congrArg Prod.fst z) (Yn hne)
    ·exact .inl (.inr z)
    ·exact .inr (congrArg Prod.fst z).symm
  ·rw [yC e2];by_cases e1:q.1=a
   ·subst e1;rw [yF rfl,YH,YR,xi,base,yR];constructor
    ·rintro ((z | z) | z)
     ·exact .inl (.inl z)
     ·exact .inr (.inl z)
     ·exact .inl (.inr (by rw [<- z]))
    ·rintro ((z | z) | (z | z))
     ·exact .inl (.inl z)
     ·exact .inr (congrArg Prod.snd z).symm
     ·exact .inl (.inr z)
     ·exact absurd (congrArg Prod.snd z) hne
   ·rw [yC e1,base];constructor
    ·rintro (z | z)
     ·exact .inl (.inl z)
     ·exact .inr (.inl z)
    ·rintro ((z | z) | (z | z))
     ·exact .inl z
     ·exact absurd (congrArg Prod.fst z).symm e1
     ·exact .inr z
     ·exact absurd (congrArg Prod.snd z).symm e2
theorem ok_btJ (F:Fun K "_law_bits" "_law_bits" qbg f fd) (T:Txt K mg cc cw):FnOk P w K mg base CX0 1 f fd ["_law_many_here","_law_ties_here"] spBtJ:=by
 refine F.ok KP fun _ _ _ _ H vs Q E hr h=>?_
 ·obtain ⟨l,n,ts,TI,rfl,hn,hI,hT,q⟩:=h;have hu:=jP hr;refine ⟨_,(qc (qj (i:=2) KP.nd rfl (yE rfl) (qx qd2 (qM (qa qh qd)) (pv 0)))
 (qc (ji yV rfl (qdy (K:=K) rfl (pv 1)) (qbM rfl (jw (qq (i:=3) KP.nd rfl (yE rfl)) (jw (qq (i:=4) KP.nd rfl (yE rfl)) qaT)))
 (qc (jK (qx qcW (qr (qt (K:=K) rfl hu) (pv 2) (pv 3) (fun _ _=>rfl)) (qx qbm qh (pv 4))) (jJ (pv 2) (pv 3) (jL hu)))
 (qe (jK (qx qcW (qr (qt (K:=K) rfl hu) (pv 2) (pv 4) (fun _ _=>rfl)) (qx qbm qh (pv 3))) (jJ (pv 2) (pv 4) (jL hu))))))
 (qe (qm (pv 2))))),?_⟩
  ext;refine ⟨by show 1<=sizeLine;decide,fun z hzz=>?_⟩;have s1:=qF (Sr H) (o:=.lst [.int 0]) hzz;ext;refine ⟨z,_,_,rfl,rfl,qb,by omega,by omega,by show 1 * _<=sizeLine;rw [Yd];exact yX (qi (by omega)),fun b hb=>?_⟩;rw [Yd,qcG];have s2:=qF s1 (o:=.lst (qau (List.replicate n 0))) hb;have hb0:H b=none:=s1.free hb;have eb:upd (upd H z (.lst [.int 0])) b (.lst (qau (List.replicate n 0))) b=some (.lst (qau (List.replicate n 0))):=qb;generalize upd (upd H z (.lst [.int 0])) b (.lst (qau (List.replicate n 0)))=H2 at s2 eb;ext;refine qeD ?_;ext;refine ⟨l,_,rfl,.of (s2 _ _ hI.1),qV (xs:=ts.map V.ref) (fun i σ J=>L2.Same H J/\∃ (bs:List Nat) (y3 y4:Option V),σ=[some (.int (n:Int)),some (.ref l),some (.ref b),y3,y4]/\J b=some (.lst (qau bs))/\BtJ n (TI.take i) bs) ⟨s2,_,_,_,rfl,eb,btJ_zero n⟩ (fun i σ J _ hp=>.of (hp.1 _ _ hI.1)) (fun i x σ J hx hp=>?_) fun σ J hp=>?_⟩
  ·obtain ⟨sJ,bs,y3,y4,rfl,eJ,hB⟩:=hp;rw [yd] at hx;obtain ⟨u,hu2,rfl⟩:=yn.mp hx;have hi:i < TI.length:=by rw [<- hI.2.len];exact (yc.mp hu2).1
   obtain ⟨q0,hq0⟩:∃ q0,TI[i]?=some q0:=⟨_,yb hi⟩;have hup:=sJ _ _ (hI.2.at_ i u q0 hu2 hq0);have hq:=hT.2.1 q0 (ye hq0);have l1:q0.1 < bs.length:=by rw [hB.1];omega
   have l2:q0.2 < bs.length:=by rw [hB.1];omega
   have hne:q0.1≠q0.2:=by omega
   refine ⟨u,_,rfl,.of hup,rfl,_,_,rfl,_,_,rfl,rfl,?_⟩;ext;refine .inl (qae eJ (qy (zk l1)) ?_);ext;refine vI ⟨by omega,by omega,by decide⟩ ?_;ext;rw [qdA];refine .inl (qdR eJ (qbB (by unfold qau;rw [ya];exact l1)) ?_);rw [qa6];ext;have e2:(bs.set q0.1 (bs.getD q0.1 0 ||| 2 ^ q0.2)).getD q0.2 0=bs.getD q0.2 0:=by rw [zj l1,yC hne]
   refine .inl (qae qb (qy (zk (by simpa using l2))) ?_);ext;refine vI ⟨by omega,by omega,by decide⟩ ?_;ext;rw [qdA,e2];refine .inl (qdR qb (qbB (by unfold qau;rw [ya];simpa using l2)) ?_);rw [qa6];ext;refine ⟨fun c o e=>?_,_,_,_,rfl,qb,?_⟩
   ·have hc:c≠b:=fun z=>by rw [z,hb0] at e;cases e
    rw [qf hc,qf hc];exact sJ c o e
   ·rw [yH,hq0];exact btJ_put hB hq
  ·obtain ⟨sJ,bs,y3,y4,rfl,eJ,hB⟩:=hp;have e:(ts.map V.ref).length=TI.length:=by rw [ya,hI.2.len]
   rw [e,yM] at hB;ext;exact q b bs J sJ hb0 eJ hB
theorem u8:FnScope ["_law_many_here","_law_gone"] ["_law_many_here","_law_gone"] (qg qaN):=fS
noncomputable def zu (gs:List Nat) (n:Nat):List Nat:=((List.range n).filter fun k=>!decide (k∈gs)).map fun k=>2 ^ k
theorem qcc (gs:List Nat):∀ n,(zu gs n).sum < 2 ^ n/\∀ k,(zu gs n).sum.testBit k=true↔k < n/\k∉gs
 | 0=>⟨by show (0:Nat) < 1;decide,fun k=>by simp [zu]⟩
 | n + 1=>by
  obtain ⟨h1,h2⟩:=qcc gs n;have hp:2 ^ (n + 1)=2 ^ n + 2 ^ n:=by rw [Nat.pow_succ];omega
  by_cases hg:n∈gs
  ·have e:zu gs (n + 1)=zu gs n:=by
    unfold zu;rw [YN,yW,yS,yC (by simp [hg])];simp
   rw [e];refine ⟨by omega,fun k=>?_⟩;rw [h2 k];constructor
   ·exact fun z=>⟨by omega,z.2⟩
   ·intro z;have:k≠n:=fun e=>z.2 (e ▸ hg);exact ⟨by omega,z.2⟩
  ·have e:(zu gs (n + 1)).sum=2 ^ n ||| (zu gs n).sum:=by
    have e1:zu gs (n + 1)=zu gs n++[2 ^ n]:=by
     unfold zu;rw [YN,yW,yS,yF (by simp [hg])];simp
    have:=Nat.two_pow_add_eq_or_of_lt h1 1;rw [Nat.mul_one] at this;rw [e1,<- this,List.sum_append];simp;omega
   rw [e];refine ⟨Y7 (by omega) (by omega),fun k=>?_⟩;rw [YH,xi,h2 k,YR,yR];constructor
   ·rintro (z | z)
    ·exact ⟨by omega,z ▸ hg⟩
    ·exact ⟨by omega,z.2⟩
   ·intro z;by_cases hk:k=n
    ·exact .inl hk.symm
    ·exact .inr ⟨by omega,z.2⟩
theorem qde {g:Addr} {k:Nat} {Q:VK} (h:H g=some (.lst (gs.map iV))) (q:Q (.bl (!decide (k∈gs))) H):qev K true (iV k) (.ref g) H Q:=by
 classical
 refine .inr (.inr ⟨g,gs.map iV,fun z=>eqV z (iV k),1,rfl,SqL.of h,by decide,fun z hz=>?_,?_⟩)
 ·obtain ⟨j,hj,rfl⟩:=yQ.mp hz;exact .flat rfl rfl
 ·have e:(gs.map iV).any (fun z=>eqV z (iV k))=decide (k∈gs):=by
   rw [Yq,YX,yR];constructor
   ·rintro ⟨z,hz,e⟩;obtain ⟨j,hj,rfl⟩:=yQ.mp hz;have e1:=j8 (j:Int) (k:Int);rw [yC (by decide)] at e1;rw [e1,yR] at e;have:j=k:=by omega
    exact this ▸ hj
   ·intro hk;refine ⟨iV k,yQ.mpr ⟨k,hk,rfl⟩,?_⟩;have e1:=j8 (k:Int) (k:Int);rw [yC (by decide)] at e1;rw [e1];exact yG rfl
  rw [yF rfl,e];exact q
inductive spRmJ (vs:List V) (H:Hp) (Q:VK) (E:XK):Prop|mk (g:Addr) (n:Nat) (gs:List Nat) (_:vs=[.int (n:Int),.ref g]) (_:n<=14) (_:H g=some (.lst (gs.map iV))) (_:∀ (H':Hp),L2.Same H H'->Q (.int ((zu gs n).sum:Nat)) H')
theorem ok_rmJ (F:Fun K "_law_room" "_law_room" qaN f fd) (T:Txt K mg cc cw):FnOk P w K mg base CX0 1 f fd ["_law_many_here","_law_gone"] spRmJ:=by
 refine F.ok u8 fun _ _ _ _ H vs Q E hr h=>?_
 ·obtain ⟨g,n,gs,rfl,hn,hg,q⟩:=h;have hu:=jP hr;refine ⟨_,(qe (qm (qp (k_sum (K:=K) rfl rfl) rfl T.b_sum PyProof.Rows.boot_sum (qa (jg (sc:=qg qaN) (XN:=["_law_many_here","_law_gone"]) ["_law_k","_law_gone"] 1 [1] rfl rfl rfl (by decide +kernel) rfl (by decide +kernel)
  (js rfl T.b_range (qa (pv 0) qd)) (fun _ _ _ _=>(qq (i:=0) (show (["_law_k","_law_gone"]:List Str).Nodup by decide +kernel) rfl (yE rfl))) qS
  (fun _ _ _ _=>(q9 (qo (zg (K:=K) rfl hu) (pv 0) (pv 1) (by with_unfolding_all rfl))))
  (fun _ _ _ _=>(qx qbm qh (pv 0)))) qd)))),?_⟩
  ext;refine ⟨(n:Int),rfl,by omega,by omega,?_⟩;rw [Yd];refine zx (lo:=0) (fun i ys J=>J=H/\ys=((zu gs i).map fun (k:Nat)=>(k:Int)).map V.int) ⟨rfl,rfl⟩ (fun i ys J hi hp=>?_) fun ys J hp=>?_
  ·obtain ⟨rfl,rfl⟩:=hp;rw [xX];ext;refine qde hg ?_;ext
   have e1:zu gs (i + 1)=zu gs i++(([i].filter fun k=>!decide (k∈gs)).map fun k=>2 ^ k):=by
    unfold zu;rw [YN,yW,yu]
   have hle:(zu gs i).length<=i:=by
    unfold zu;rw [ya];exact yi (yT _ _) (by rw [xC];exact yh _)
   refine qP (fun hc=>?_) (fun hc=>?_)
   ·ext;refine vI ⟨by omega,by omega,by decide⟩ ?_;rw [qc9];refine ⟨by rw [ya,ya];exact qi (by omega),rfl,?_⟩;rw [e1,yS,yF hc];simp
   ·refine ⟨rfl,?_⟩;rw [e1,yS,yC hc];simp
  ·obtain ⟨rfl,rfl⟩:=hp
   have hle:(zu gs n).length<=n:=by
    unfold zu;rw [ya];exact yi (yT _ _) (by rw [xC];exact yh _)
   refine ⟨by rw [ya,ya];exact yX (qi (by omega)),fun b hb=>?_⟩;ext;refine ⟨b,_,rfl,SqL.of qb,?_⟩
   have es:∀ xs:List Nat,(xs.map fun (k:Nat)=>(k:Int)).sum=((xs.sum:Nat):Int):=fun xs=>by
    induction xs with
    | nil=>rfl
    | cons a l ih=>rw [Yy,ku,ku,ih];omega
   rw [es];exact q _ (qF (Sr J) hb)
theorem K5:FnScope ["_law_purse_here","_law_many_here","_law_thin","_law_found","_law_turn"] ["_law_purse_here","_law_many_here","_law_thin"] (qg qaO):=fS
inductive spSmJ (vs:List V) (H:Hp) (Q:VK) (E:XK):Prop|mk (p:Addr) (m thin:Nat) (_:vs=[.ref p,.int (m:Int),.int (thin:Int)]) (_:Pu H p) (_:m<=14) (_:0 < thin) (_:thin < 1000) (_:∀ (g:Addr) (gs:List Nat) (H':Hp),But p H H'->Pu H' p->H g=none->g≠p->H' g=some (.lst (gs.map iV))->gs.Nodup->(∀ k∈gs,k < m)->Q (.ref g) H')
theorem ok_smJ (F:Fun K "_law_some" "_law_some" qaO f fd) (T:Txt K mg cc cw) (kW:DefOk P w K mg base CX0 1 "_law_take" ["_law_purse_here","_law_many_here"] spTkP):FnOk P w K mg base CX0 2 f fd ["_law_purse_here","_law_many_here","_law_thin"] spSmJ:=by
 refine F.ok K5 fun _ _ _ _ H vs Q E hr h=>?_
 ·obtain ⟨p,m,thin,rfl,hB,hm,th0,th1,q⟩:=h;have hu:=jP hr;refine ⟨_,(qc (qaV (sc:=qg qaO) (XN:=["_law_purse_here","_law_many_here","_law_thin","_law_found","_law_turn"]) ["_law_k","_law_purse_here","_law_thin"] 1 [0,2] rfl rfl rfl (by decide +kernel) rfl (by decide +kernel) (i:=3) K5.nd rfl rfl
  (js rfl T.b_range (qa (pv 1) qd)) (fun _ _ _ _=>(qq (i:=0) (show (["_law_k","_law_purse_here","_law_thin"]:List Str).Nodup by decide +kernel) rfl (yE rfl))) qS
  (fun _ _ _ _=>(q9 (qo (zO (K:=K) rfl hu) (qk kW (hmR hr) qw (qa (pv 1) (qa (pv 2) qd))) qh (qB _))))
  (fun _ _ _ _=>(pv 0)))
 (qc (qj (i:=4) K5.nd rfl (yE rfl) (qk kW (hmR hr) qw (qa (pv 0) (qa (qp (qbo rfl) rfl T.b_max boot_max (qa qh (qa (qp (jI (K:=K) rfl) rfl T.b_len YA (qa (pv 3) qd)) qd))) qd))))
 (qe (qm (pe_rv2 (K:=K) rfl (qx (j3 (K:=K) rfl) (jf (qc2 (K:=K) rfl) (pv 3) (jk (pv 4)) jz) (jf (qc2 (K:=K) rfl) (pv 3) jz (jk (pv 4)))) (jk (qr (qt (K:=K) rfl hu) (qM (qa qh (qa (qbk qay qh) qd))) (qk kW (hmR hr) qw (qa (pv 0) (qa qh qd))) (fun _ _=>rfl)))))))),?_⟩
  ext;refine ⟨(m:Int),rfl,by omega,by omega,?_⟩;rw [Yd];refine zx (lo:=0) (fun i ys J=>But p H J/\Pu J p/\∃ gs:List Nat,ys=gs.map iV/\gs.Nodup/\(∀ k∈gs,k < i)/\gs.length<=i) ⟨fun c o _ e=>e,hB,[],rfl,.nil,(fun k hk=>by cases hk),yh _⟩ (fun i ys J hi hp=>?_) fun ys J hp=>?_
  ·obtain ⟨bJ,hBJ,gs,rfl,hnd,hlt,hgl⟩:=hp;rw [xX];ext;refine ⟨p,thin,rfl,hBJ,th0,th1,fun d J2 hd b2 hB2=>?_⟩;ext;refine qdc ?_;ext;refine qP (fun hc=>?_) (fun hc=>?_)
   ·ext;refine ⟨by rw [ya];exact qi (by omega),bJ.trans7 b2,hB2,gs++[i],by rw [yu];rfl,Yg.mpr ⟨hnd,Y9 _ _,fun a ha b hb e=>?_⟩,fun k hk=>?_,by rw [yt];simp;omega⟩
    ·rw [yy.mp hb] at e;have:=hlt a ha;omega
    ·rcases yz.mp hk with z | z
     ·have:=hlt k z;omega
     ·rw [yy.mp z];omega
   ·exact ⟨bJ.trans7 b2,hB2,gs,rfl,hnd,(fun k hk=>by have:=hlt k hk;omega),by omega⟩
  ·obtain ⟨bJ,hBJ,gs,rfl,hnd,hlt,hgl⟩:=hp;refine ⟨by rw [ya];exact yX (qi (by omega)),fun g hg=>?_⟩;have hgp:=hBJ.apart hg;have b1:=bJ.new7 (o:=.lst (gs.map iV)) hg;have eg:upd J g (.lst (gs.map iV)) g=some (.lst (gs.map iV)):=qb;have hB1:Pu (upd J g (.lst (gs.map iV))) p:=hBJ.new hg;generalize upd J g (.lst (gs.map iV))=H1 at b1 eg hB1;ext;refine zd eg ?_;rw [ya];ext;refine ⟨_,_,rfl,?_⟩
   obtain ⟨M,eM,hM0,hM1⟩:∃ M:Nat,(if ((gs.length:Nat):Int) > 1 then ((gs.length:Nat):Int) else 1)=(M:Int)/\0 < M/\M < 1000:=by
    by_cases h1:1 < gs.length
    ·rw [yF (by omega)];exact ⟨gs.length,rfl,by omega,by omega⟩
    ·rw [yC (by omega)];exact ⟨1,rfl,by decide,by decide⟩
   rw [eM];ext;refine ⟨p,M,rfl,hB1,hM0,hM1,fun tu H2 htu b2 hB2=>?_⟩;have eg2:=b2 _ _ hgp eg;have b02:=b1.trans7 b2;ext;refine vRv2 ?_;ext;refine .inl ⟨g,_,rfl,.of eg2,fun g1 hg1=>?_⟩;have ed:qb0 (gs.map iV) (some (tu:Int)) none=(gs.drop tu).map iV:=by rw [qaF,List.map_drop]
   rw [ed];have b3:=b02.new7 (o:=.lst ((gs.drop tu).map iV)) hg1;have s3:=qF (Sr H2) (o:=.lst ((gs.drop tu).map iV)) hg1;have e3:upd H2 g1 (.lst ((gs.drop tu).map iV)) g1=some (.lst ((gs.drop tu).map iV)):=qb;have hB3:Pu (upd H2 g1 (.lst ((gs.drop tu).map iV))) p:=hB2.new hg1;generalize upd H2 g1 (.lst ((gs.drop tu).map iV))=H3 at b3 s3 e3 hB3;ext;refine .inl ⟨g,_,rfl,.of (s3 _ _ eg2),fun g2 hg2=>?_⟩;have et:qb0 (gs.map iV) none (some (tu:Int))=(gs.take tu).map iV:=by rw [zT,kQ]
   rw [et];have b4:=b3.new7 (o:=.lst ((gs.take tu).map iV)) hg2;have s4:=qF (Sr H3) (o:=.lst ((gs.take tu).map iV)) hg2;have e4:upd H3 g2 (.lst ((gs.take tu).map iV)) g2=some (.lst ((gs.take tu).map iV)):=qb;have hB4:Pu (upd H3 g2 (.lst ((gs.take tu).map iV))) p:=hB3.new hg2;generalize upd H3 g2 (.lst ((gs.take tu).map iV))=H4 at b4 s4 e4 hB4;ext;show qcy K (V.ref g1) (V.ref g2) H4 _;refine .inl ⟨g1,g2,_,_,rfl,rfl,s4 _ _ e3,e4,by rw [ya,ya,Xl,yL];exact yX (qi (by omega)),fun g3 hg3=>?_⟩;have es:(gs.drop tu).map iV++(gs.take tu).map iV=(gs.drop tu++gs.take tu).map iV:=by rw [yu]
   rw [es]
   have hperm:(gs.drop tu++gs.take tu).Perm gs:=by
    have h1:=List.perm_append_comm (l₁:=gs.drop tu) (l₂:=gs.take tu)
    rwa [XG] at h1
   have hnd2:(gs.drop tu++gs.take tu).Nodup:=hperm.nodup_iff.mpr hnd;have hlt2:∀ k∈gs.drop tu++gs.take tu,k < m:=fun k hk=>hlt k (hperm.mem_iff.mp hk);generalize gs.drop tu++gs.take tu=fs at hnd2 hlt2;have b5:=b4.new7 (o:=.lst (fs.map iV)) hg3;have e5:upd H4 g3 (.lst (fs.map iV)) g3=some (.lst (fs.map iV)):=qb;have hB5:Pu (upd H4 g3 (.lst (fs.map iV))) p:=hB4.new hg3;have hp3:=hB4.apart hg3;generalize upd H4 g3 (.lst (fs.map iV))=H5 at b5 e5 hB5;ext;refine vU ?_;ext;refine ⟨by show 2<=sizeLine;decide,fun g4 hg4=>?_⟩;have b6:=b5.new7 (o:=.lst [.int 1,.int (-1)]) hg4;have s6:=qF (Sr H5) (o:=.lst [.int 1,.int (-1)]) hg4;have e6:upd H5 g4 (.lst [.int 1,.int (-1)]) g4=some (.lst [.int 1,.int (-1)]):=qb;have hB6:Pu (upd H5 g4 (.lst [.int 1,.int (-1)])) p:=hB5.new hg4;have hp4:=hB5.apart hg4;generalize upd H5 g4 (.lst [.int 1,.int (-1)])=H6 at b6 s6 e6 hB6;ext;refine ⟨p,2,rfl,hB6,by decide,by decide,fun d H7 hd b7 hB7=>?_⟩;have e7:=b7 _ _ hp3 (s6 _ _ e5);have b07:=b6.trans7 b7;have fin:∀ (xs:List Nat) (r:Addr),H7 r=none->xs.Nodup->(∀ k∈xs,k < m)->Q (.ref r) (upd H7 r (.lst (xs.map iV))):=fun xs r hr0 h1 h2=>q r xs _ (b07.new7 hr0) (hB7.new hr0) (b07.free7 (hB7.apart hr0) hr0) (hB7.apart hr0) qb h1 h2;have hd':d=0\/d=1:=by omega
   rcases hd' with rfl | rfl
   ·refine .inl (qae (b7 _ _ hp4 e6) (v:=.int 1) rfl ?_);exact ⟨1,rfl,g3,_,rfl,.of e7,.inr ⟨rfl,fun r hr0=>fin fs r hr0 hnd2 hlt2⟩⟩
   ·refine .inl (qae (b7 _ _ hp4 e6) (v:=.int (-1)) rfl ?_);exact ⟨-1,rfl,g3,_,rfl,.of e7,.inl ⟨rfl,fun r hr0=>by rw [<- kE];exact fin fs.reverse r hr0 ((kj fs).nodup_iff.mpr hnd2) fun k hk=>hlt2 k (XS.mp hk)⟩⟩
noncomputable def qcR (m k:Nat):Nat:=m - (m &&& k)
theorem and_or_dis:∀ (a b:Nat),a &&& b=0->a + b=a ||| b:=by
 intro a
 induction a using Nat.strongRecOn with
 | ind a ih =>
  intro b h;by_cases ha:a=0
  ·subst ha;simp
  ·have h2:(a / 2) &&& (b / 2)=0:=by rw [<- Nat.and_div_two,h]
   have e:=ih (a / 2) (by omega) (b / 2) h2
   have h1:(a % 2) &&& (b % 2)=0:=by
    have:=congrArg (· % 2) h;simpa [Nat.and_mod_two_pow (n:=1)] using this
   have o2:(a ||| b) / 2=a / 2 ||| b / 2:=Nat.or_div_two
   have o1:(a ||| b) % 2=(a % 2) ||| (b % 2):=by
    simpa using Nat.or_mod_two_pow (a:=a) (b:=b) (n:=1)
   have hm:(a % 2) ||| (b % 2)=a % 2 + b % 2:=by
    rcases Xj a with x | x<;>rcases Xj b with y | y<;>rw [x,y] at h1 ⊢<;>first | rfl | exact absurd h1 (by decide)
   have hd:=Nat.div_add_mod (a ||| b) 2;rw [o2,o1,hm,<- e] at hd;omega
theorem qdH (m k c:Nat):(qcR m k).testBit c=(m.testBit c&&!k.testBit c):=by
 have h0:(m &&& k) &&& (m ^^^ (m &&& k))=0:=by
  apply Nat.eq_of_testBit_eq;intro i;simp only [X4,kN,Nat.zero_testBit];cases m.testBit i<;>cases k.testBit i<;>rfl
 have h1:=and_or_dis _ _ h0
 have h2:(m &&& k) ||| (m ^^^ (m &&& k))=m:=by
  apply Nat.eq_of_testBit_eq;intro i;simp only [X4,kN,YH];cases m.testBit i<;>cases k.testBit i<;>rfl
 have h3:qcR m k=m ^^^ (m &&& k):=by unfold qcR;omega
 rw [h3];simp only [X4,kN];cases m.testBit c<;>cases k.testBit c<;>rfl
theorem qbE (m k:Nat):Builtin.bitAnd (m:Int) (Builtin.bitNot (k:Int))=((qcR m k:Nat):Int):=by
 have n1:Builtin.bitNot (k:Int)=-(k:Int) - 1:=rfl;have n2:Builtin.bitNot (-(k:Int) - 1)=(k:Int):=by unfold Builtin.bitNot;omega
 unfold Builtin.bitAnd;rw [n1,yG (by omega),yl (by omega)];dsimp only;rw [n2,Yd,Yd];have:(m &&& k)<=m:=Nat.and_le_left;unfold qcR;omega
theorem and_nat (m k:Nat):Builtin.bitAnd (m:Int) (k:Int)=((m &&& k:Nat):Int):=by
 unfold Builtin.bitAnd;rw [yG (by omega),yG (by omega)];dsimp only;rw [Yd,Yd]
inductive Rr (bs:List Nat) (r k:Nat):Nat->Prop
 | zero:Rr bs r k k
 | step {a b:Nat} (h:Rr bs r k a) (t:qbD bs a b=true) (i:r.testBit b=true):Rr bs r k b
theorem Rr.trans {bs:List Nat} {k a b:Nat} (h:Rr bs r k a) (g:Rr bs r a b):Rr bs r k b:=by
 induction g with
 | zero=>exact h
 | step _ t i ih=>exact .step ih t i
theorem Rr.in_ {bs:List Nat} {k a:Nat} (h:Rr bs r k a) (hk:r.testBit k=true):r.testBit a=true:=by
 cases h with
 | zero=>exact hk
 | step _ _ i=>exact i
theorem Rr.symm {bs:List Nat} {k a:Nat} (hs:∀ a b,qbD bs a b=true->qbD bs b a=true) (hk:r.testBit k=true) (h:Rr bs r k a):Rr bs r a k:=by
 induction h with
 | zero=>exact .zero
 | step h t i ih=>exact Rr.trans (.step .zero (hs _ _ t) (h.in_ hk)) ih
theorem Rr.mono {bs:List Nat} {r' k a:Nat} (hr:∀ c,r.testBit c=true->r'.testBit c=true) (h:Rr bs r k a):Rr bs r' k a:=by
 induction h with
 | zero=>exact .zero
 | step _ t i ih=>exact .step ih t (hr _ i)
noncomputable def cnt (n P:Nat):Nat:=((List.range n).filter fun c=>P.testBit c).length
noncomputable def zv (n P:Nat):List Nat:=(List.range n).filter fun c=>P.testBit c
theorem qeV (n P:Nat):cnt n P<=n:=yi (yT _ _) (by rw [xC];exact yh _)
theorem qeW {P f:Nat} (h:∀ c,P.testBit c=true->f.testBit c=false):cnt n (P ||| f)=cnt n P + cnt n f:=by
 unfold cnt
 induction n with
 | zero=>rfl
 | succ n ih =>
  rw [YN,yW,yW,yW,yt,yt,yt,ih];have e:(P ||| f).testBit n=(P.testBit n||f.testBit n):=YH ..;have hn:=h n;simp only [yS,Yv,e];cases hp:P.testBit n<;>cases hf:f.testBit n<;>simp_all<;>omega
noncomputable def Lft (bs:List Nat) (r i c:Nat):Prop:=r.testBit c=true/\∀ j,j < i->r.testBit j=true->¬ Rr bs r j c
open Classical in
noncomputable def zP (bs:List Nat) (r n:Nat):List Nat:=(List.range n).filter fun k=>decide (Lft bs r k k)
open Classical in
noncomputable def qa1 (bs:List Nat) (r n k:Nat):List Nat:=(List.range n).filter fun c=>decide (Rr bs r k c)
theorem qeq {bs:List Nat} (hs:∀ a b,qbD bs a b=true->qbD bs b a=true) (hi:∀ c,ri.testBit c=true↔Lft bs r i c) (hl:Lft bs r i i) (c:Nat):Rr bs ri i c↔Rr bs r i c:=by
 have up:∀ c,ri.testBit c=true->r.testBit c=true:=fun c h=>((hi c).mp h).1;constructor
 ·exact Rr.mono up
 ·intro h
  induction h with
  | zero=>exact .zero
  | @step a b h t ib ih =>
   refine .step ih t ((hi b).mpr ⟨ib,fun j hj rj hjb=>hl.2 j hj rj ?_⟩);exact hjb.trans (Rr.symm hs hl.1 (.step h t ib))
theorem lft_next {bs:List Nat} {P:Nat} (hs:∀ a b,qbD bs a b=true->qbD bs b a=true) (hi:∀ c,ri.testBit c=true↔Lft bs r i c) (hl:Lft bs r i i) (hP:∀ c,P.testBit c=true↔Rr bs ri i c) (c:Nat):(qcR ri P).testBit c=true↔Lft bs r (i + 1) c:=by
 rw [qdH,Ye,hi c,XE,<- Bool.not_eq_true,hP c,qeq hs hi hl c];constructor
 ·rintro ⟨h1,h2⟩;refine ⟨h1.1,fun j hj rj hjc=>?_⟩;by_cases e:j=i
  ·subst e;exact h2 hjc
  ·exact h1.2 j (by omega) rj hjc
 ·intro h;exact ⟨⟨h.1,fun j hj=>h.2 j (by omega)⟩,h.2 i (by omega) hl.1⟩
theorem lft_skip {bs:List Nat} (hi:∀ c,ri.testBit c=true↔Lft bs r i c) (hl:¬ Lft bs r i i) (c:Nat):ri.testBit c=true↔Lft bs r (i + 1) c:=by
 rw [hi c];constructor
 ·intro h;refine ⟨h.1,fun j hj rj hjc=>?_⟩;by_cases e:j=i
  ·subst e;apply hl;refine ⟨rj,fun j' hj' rj' hh=>h.2 j' hj' rj' (hh.trans hjc)⟩
  ·exact h.2 j (by omega) rj hjc
 ·intro h;exact ⟨h.1,fun j hj=>h.2 j (by omega)⟩
structure WkJ (bs:List Nat) (n r i P:Nat) (L:List Nat):Prop where
 to:∀ c,P.testBit c=true->Rr bs r i c
 self:P.testBit i=true
 lin:∀ a∈L,P.testBit a=true
 cl:∀ a,P.testBit a=true->a∉L->∀ b,qbD bs a b=true->r.testBit b=true->P.testBit b=true
 lt:P < 2 ^ n
theorem WkJ.done {bs:List Nat} {P:Nat} (h:WkJ bs n r i P []) (c:Nat):P.testBit c=true↔Rr bs r i c:=by
 constructor
 ·exact h.to c
 ·intro g
  induction g with
  | zero=>exact h.self
  | @step a b _ t ib ih=>exact h.cl a ih (by simp) b t ib
theorem qer {P c:Nat} (h:P < 2 ^ n) (hc:P.testBit c=true):c < n:=by
 apply Yu;intro hn;rw [Nat.testBit_lt_two_pow (yj h (Nat.pow_le_pow_right (by decide) (by omega)))] at hc;cases hc
theorem WkJ.next {bs:List Nat} {P:Nat} {L:List Nat} {a:Nat} (h:WkJ bs n r i P (L++[a])) (hb:∀ a,bs.getD a 0 < 2 ^ n):WkJ bs n r i (P ||| qcR (bs.getD a 0 &&& r) P) (L++zv n (qcR (bs.getD a 0 &&& r) P))/\2 * (n - cnt n (P ||| qcR (bs.getD a 0 &&& r) P)) + (L++zv n (qcR (bs.getD a 0 &&& r) P)).length < 2 * (n - cnt n P) + (L++[a]).length:=by
 generalize hf:qcR (bs.getD a 0 &&& r) P=f
 have fb:∀ c,f.testBit c=true↔qbD bs a c=true/\r.testBit c=true/\P.testBit c=false:=fun c=>by
  rw [<- hf,qdH,X4];unfold qbD;cases (bs.getD a 0).testBit c<;>cases r.testBit c<;>cases P.testBit c<;>simp
 have pa:=h.lin a (by simp)
 have fl:f < 2 ^ n:=by
  rw [<- hf];unfold qcR;have h1:bs.getD a 0 &&& r<=bs.getD a 0:=Nat.and_le_left;have h2:=hb a;omega
 have hdis:∀ c,P.testBit c=true->f.testBit c=false:=fun c hc=>by
  cases e:f.testBit c with
  | false=>rfl
  | true=>have:=((fb c).mp e).2.2;rw [hc] at this;cases this
 have ob:∀ c,(P ||| f).testBit c=true↔P.testBit c=true\/f.testBit c=true:=fun c=>by rw [YH,xi]
 have mf:∀ c,c∈zv n f↔f.testBit c=true:=fun c=>by
  unfold zv;rw [yp,Yw];exact ⟨fun z=>z.2,fun z=>⟨qer fl z,z⟩⟩
 refine ⟨⟨fun c hc=>?_,(ob i).mpr (.inl h.self),fun c hc=>?_,fun c hc hcl b t ib=>?_,Y7 h.lt fl⟩,?_⟩
 ·rcases (ob c).mp hc with z | z
  ·exact h.to c z
  ·have z':=(fb c).mp z;exact .step (h.to a pa) z'.1 z'.2.1
 ·rcases yz.mp hc with z | z
  ·exact (ob c).mpr (.inl (h.lin c (by simp [z])))
  ·exact (ob c).mpr (.inr ((mf c).mp z))
 ·have hc1:c∉L:=fun z=>hcl (yP _ z)
  have hc2:f.testBit c=false:=by
   cases e:f.testBit c with
   | false=>rfl
   | true=>exact absurd (yO L ((mf c).mpr e)) hcl
  have hcP:P.testBit c=true:=by
   rcases (ob c).mp hc with z | z
   ·exact z
   ·rw [hc2] at z;cases z
  by_cases e:c=a
  ·subst e
   cases hb':P.testBit b with
   | true=>exact (ob b).mpr (.inl hb')
   | false=>exact (ob b).mpr (.inr ((fb b).mpr ⟨t,ib,hb'⟩))
  ·refine (ob b).mpr (.inl (h.cl c hcP (fun z=>?_) b t ib));rcases yz.mp z with z | z
   ·exact hc1 z
   ·exact e (yy.mp z)
 ·rw [qeW hdis,yt,yt];have h1:=qeV n (P ||| f);rw [qeW hdis] at h1;have h2:(zv n f).length=cnt n f:=rfl;rw [h2];simp only [yA,YM];omega
theorem WkJ.start {bs:List Nat} (hi:i < n):WkJ bs n r i (2 ^ i) [i]:=by
 have e:∀ c,(2 ^ i).testBit c=true↔i=c:=fun c=>by rw [YR,yR]
 exact ⟨fun c hc=>(e c).mp hc ▸ .zero,(e i).mpr rfl,fun a ha=>(e a).mpr (yy.mp ha).symm,fun a ha hn=>absurd (yy.mpr ((e a).mp ha).symm) hn,Y5 (by decide) hi⟩
theorem Kd:FnScope ["_law_many_here","_law_bits_here","_law_room_here","_law_found","_law_k","_law_piece","_law_line","_law_fresh"] ["_law_many_here","_law_bits_here","_law_room_here"] (qg j9):=fS
inductive spPjJ (vs:List V) (H:Hp) (Q:VK) (E:XK):Prop|mk (bb:Addr) (n r:Nat) (bs:List Nat) (_:vs=[.int (n:Int),.ref bb,.int (r:Int)]) (_:n<=14) (_:H bb=some (.lst (qau bs))) (_:bs.length=n) (_:(∀ a,bs.getD a 0 < 2 ^ n)) (_:(∀ a b,qbD bs a b=true->qbD bs b a=true)) (_:r < 2 ^ n) (_:∀ (l:Addr) (ls:List Addr) (H':Hp),L2.Same H H'->H l=none->H' l=some (.lst (ls.map V.ref))->All2 (fun a ks=>H' a=some (.lst (ks.map iV))) ls ((zP bs r n).map (qa1 bs r n))->Q (.ref l) H')
theorem qdf (b j:Nat):(if false=true then !eqV (V.int (Builtin.bitAnd ((b:Int) / 2 ^ (j:Int).toNat) 1)) (V.int 1) else eqV (V.int (Builtin.bitAnd ((b:Int) / 2 ^ (j:Int).toNat) 1)) (V.int 1))=b.testBit j:=by
 rw [j8];exact qaY b j
open Classical in
theorem reps_on {bs:List Nat} (h:Lft bs r i i):zP bs r (i + 1)=zP bs r i++[i]:=by
 unfold zP;rw [YN,yW,yS,yF (yG h)];rfl
open Classical in
theorem reps_off {bs:List Nat} (h:¬ Lft bs r i i):zP bs r (i + 1)=zP bs r i:=by
 unfold zP;rw [YN,yW,yS,yC (fun z=>h (yk z))];simp
theorem qbh {f:Nat}:zv (n + 1) f=zv n f++if f.testBit n=true then [n] else []:=by
 unfold zv;rw [YN,yW,yS];rfl
theorem qaP (n f:Nat):(zv n f).length<=n:=qeV n f
theorem ok_pjJ (F:Fun K "_law_pieces" "_law_pieces" j9 f fd) (T:Txt K mg cc cw):FnOk P w K mg base CX0 1 f fd ["_law_many_here","_law_bits_here","_law_room_here"] spPjJ:=by
 refine F.ok Kd fun _ _ _ _ H vs Q E hr h=>?_
 ·obtain ⟨bb,n,r,bs,rfl,hn,hbb,hbl,hb,hsy,hr0,q⟩:=h;have hu:=jP hr;refine ⟨_,(qc (qj (i:=3) Kd.nd rfl (yE rfl) (qM qd))
 (qc (ji yV rfl (js rfl T.b_range (qa (pv 0) qd)) (qq (i:=4) Kd.nd rfl (yE rfl))
 (qe (qT (qo (zO (K:=K) rfl hu) (qx qbn (qx qdn (pv 2) (pv 4)) qh) qh (qB _)) (qc (qj (i:=5) Kd.nd rfl (Xw rfl) (qx qbm qh (pv 4)))
 (qc (qj (i:=6) Kd.nd rfl (yE rfl) (qM (qa (pv 4) qd)))
 (qc (zZ yV (qo (qa4 (K:=K) rfl hu) (pv 6) (qM qd) (qB _))
 (qc (qj (i:=7) Kd.nd rfl (Xw rfl) (qx qbn (qx qbn (qr (qt (K:=K) rfl hu) (pv 1) (k_bm0 (K:=K) rfl yD XH XI mtR_pop (pv 6)) (fun _ _=>rfl)) (pv 2)) (qbk qeI (pv 5))))
 (qc (qj (i:=5) Kd.nd rfl (Xw rfl) (qx qcW (pv 5) (pv 7)))
 (qe (qL (qaW (K:=K) rfl yD xE xF qag (pv 6) (qa (jg (sc:=qg j9) (XN:=["_law_many_here","_law_bits_here","_law_room_here","_law_found","_law_k","_law_piece","_law_line","_law_fresh"]) ["_law_j","_law_fresh"] 1 [7] rfl rfl rfl (by decide +kernel) rfl (by decide +kernel)
  (js rfl T.b_range (qa (pv 0) qd)) (fun _ _ _ _=>(qq (i:=0) (show (["_law_j","_law_fresh"]:List Str).Nodup by decide +kernel) rfl (yE rfl))) qS
  (fun _ _ _ _=>(q9 (qo (zO (K:=K) rfl hu) (qx qbn (qx qdn (pv 1) (pv 0)) qh) qh (qB _))))
  (fun _ _ _ _=>(pv 0))) qd)))))))
 (qc (qj (i:=2) Kd.nd rfl (yE rfl) (qx qbn (pv 2) (qbk qeI (pv 5))))
 (qe (qL (qaW (K:=K) rfl yD y0 Yb qI (pv 3) (qa (jg (sc:=qg j9) (XN:=["_law_many_here","_law_bits_here","_law_room_here","_law_found","_law_k","_law_piece","_law_line","_law_fresh"]) ["_law_j","_law_piece"] 1 [5] rfl rfl rfl (by decide +kernel) rfl (by decide +kernel)
  (js rfl T.b_range (qa (pv 0) qd)) (fun _ _ _ _=>(qq (i:=0) (show (["_law_j","_law_piece"]:List Str).Nodup by decide +kernel) rfl (yE rfl))) qS
  (fun _ _ _ _=>(q9 (qo (zO (K:=K) rfl hu) (qx qbn (qx qdn (pv 1) (pv 0)) qh) qh (qB _))))
  (fun _ _ _ _=>(pv 0))) qd)))))))) qv)))
 (qe (qm (pv 3))))),?_⟩
  ext;refine ⟨by show 0<=sizeLine;decide,fun l hl=>?_⟩;have s1:=qF (Sr H) (o:=.lst []) hl;have el:upd H l (.lst []) l=some (.lst []):=qb;generalize upd H l (.lst [])=H1 at s1 el;ext;refine ⟨(n:Int),rfl,by omega,by omega,?_⟩;rw [Yd];refine zw (lo:=0) (n:=n) (fun i σ J=>L2.Same H J/\∃ (ri:Nat) (ls:List Addr) (y4 y5 y6 y7:Option V),σ=[some (.int (n:Int)),some (.ref bb),some (.int (ri:Int)),some (.ref l),y4,y5,y6,y7]/\ri < 2 ^ n/\(∀ c,ri.testBit c=true↔Lft bs r i c)/\J l=some (.lst (ls.map V.ref))/\All2 (fun a ks=>J a=some (.lst (ks.map iV))/\a≠l) ls ((zP bs r i).map (qa1 bs r n))) ⟨s1,r,[],_,_,_,_,rfl,hr0,fun c=>⟨fun h=>⟨h,fun j hj=>absurd hj (by omega)⟩,fun h=>h.1⟩,el,.nil⟩ (fun i σ J hi hp=>?_) fun σ J hp=>?_
  ·obtain ⟨sJ,ri,ls,y4,y5,y6,y7,rfl,hri,hle,eJ,hA⟩:=hp;rw [xX];ext;refine vI (by omega) ?_;ext;refine .inl (.inl (.inl ⟨rfl,rfl,?_⟩));rw [qdf];ext
   have lsl:ls.length<=i:=by
    rw [hA.len,ya];unfold zP;exact yi (yT _ _) (by rw [xC];exact yh _)
   refine qP (fun h1=>?_) (fun h1=>?_)
   ·have hli:Lft bs r i i:=(hle i).mp h1;ext;refine vI ⟨by omega,by omega,by decide⟩ ?_;rw [qc9];ext;refine ⟨by show 1<=sizeLine;decide,fun ln hln=>?_⟩;have s2:=qF (Sr J) (o:=.lst ([i].map iV)) hln;have eln:upd J ln (.lst ([i].map iV)) ln=some (.lst ([i].map iV)):=qb;have eu:upd J ln (.lst [V.int (i:Int)])=upd J ln (.lst ([i].map iV)):=rfl;rw [eu];have hln0:H ln=none:=sJ.free hln;have hlnJ:∀ {c:Addr} {o:HO},J c=some o->c≠ln:=fun e z=>by rw [z,hln] at e;cases e
    generalize upd J ln (.lst ([i].map iV))=J2 at s2 eln;ext;refine ⟨fun m σ J'=>∃ (pc:Nat) (L:List Nat) (y7:Option V),σ=[some (.int (n:Int)),some (.ref bb),some (.int (ri:Int)),some (.ref l),some (.int (i:Int)),some (.int (pc:Int)),some (.ref ln),y7]/\But ln J2 J'/\J' ln=some (.lst (L.map iV))/\WkJ bs n ri i pc L/\2 * (n - cnt n pc) + L.length<=m/\2 * (n - cnt n pc) + L.length<=30,⟨_,2 ^ i,[i],_,rfl,(fun c o _ e=>e),eln,WkJ.start hi,yh _,by show 2 * (n - cnt n (2 ^ i)) + 1<=30;omega⟩,fun m σ J' hW=>?_⟩;obtain ⟨pc,L,y7,rfl,b3,e3,wk,hm,h30⟩:=hW;ext;refine ⟨by show 0<=sizeLine;decide,fun e he0=>?_⟩;have s3:=qF (Sr J') (o:=.lst []) he0;have ee:upd J' e (.lst []) e=some (.lst []):=qb;generalize upd J' e (.lst [])=J3 at s3 ee;have e3':=s3 _ _ e3;have keep:∀ c o,J c=some o->J3 c=some o:=fun c o z=>s3 _ _ (b3 c o (hlnJ z) (s2 _ _ z))
    have hL:L=[]\/∃ L' a,L=L'++[a]:=by
     rcases List.eq_nil_or_concat L with h | ⟨L',a,h⟩
     ·exact .inl h
     ·exact .inr ⟨L',a,by rw [h,List.concat_eq_append]⟩
    rcases hL with rfl | ⟨L',a,rfl⟩
    ·refine .inr (.inl ⟨ln,e,true,1,rfl,rfl,by decide,(EqT.lst (n:=0) (e:=fun _=>true) (SqL.of e3') (SqL.of ee) rfl fun j x y h=>by (simp at h)),?_⟩);ext;refine yq ?_;ext;refine vU ?_;ext;rw [qbE];have eJ3:=keep _ _ eJ;refine ⟨.inl ⟨rfl,_,.of eJ3⟩,?_⟩;ext;refine ⟨(n:Int),rfl,by omega,by omega,?_⟩;rw [Yd];refine zx (lo:=0) (fun k ys G=>G=J3/\ys=(zv k pc).map iV) ⟨rfl,rfl⟩ (fun k ys G hk hp=>?_) fun ys G hp=>?_
     ·obtain ⟨rfl,rfl⟩:=hp;rw [xX];ext;refine vI (by omega) ?_;ext;refine .inl (.inl (.inl ⟨rfl,rfl,?_⟩));rw [qdf];ext;have bl:=qaP k pc;refine qP (fun hc=>?_) (fun hc=>?_)
      ·ext;refine ⟨by rw [ya];exact qi (by omega),rfl,?_⟩;rw [qbh,yF hc,yu];rfl
      ·refine ⟨rfl,?_⟩;rw [qbh,yC hc,Yi]
     ·obtain ⟨rfl,rfl⟩:=hp;have bl:=qaP n pc;refine ⟨by rw [ya];exact yX (qi (by omega)),fun g hg=>?_⟩;have s4:=qF (Sr G) (o:=.lst ((zv n pc).map iV)) hg;have eg:upd G g (.lst ((zv n pc).map iV)) g=some (.lst ((zv n pc).map iV)):=qb;have gl:g≠l:=fun z=>by rw [z,eJ3] at hg;cases hg
      generalize upd G g (.lst ((zv n pc).map iV))=J4 at s4 eg;have eJ4:=s4 _ _ eJ3;ext;refine ⟨l,_,_,rfl,rfl,eJ4,by rw [ya];exact qi (by omega),?_⟩;have wd:=wk.done;have off:qcR ri pc < 2 ^ n:=Yr (by unfold qcR;omega) hri
      have ec:qa1 bs r n i=zv n pc:=by
       classical
       unfold qa1 zv;apply Y8;intro c _;rw [Yq,yR,wd c,qeq hsy hle hli c]
      refine ⟨fun c o z=>?_,qcR ri pc,ls++[g],_,_,_,_,rfl,off,lft_next hsy hle hli wd,by rw [qb,yu];rfl,?_⟩
      ·rw [qf (fun z'=>by rw [z',hl] at z;cases z)];exact s4 _ _ (keep _ _ (sJ c o z))
      ·rw [reps_on hli,yu];refine All2.snoc (hA.mono fun a ks z=>⟨by rw [qf z.2];exact s4 _ _ (keep _ _ z.1),z.2⟩) ⟨by rw [qf gl,ec];exact eg,gl⟩
    ·refine .inr (.inl ⟨ln,e,false,1,rfl,rfl,by decide,EqT.lstL (SqL.of e3') (SqL.of ee) (by simp),?_⟩);ext;refine zN ⟨fun σ J4=>∃ (pc:Nat) (L:List Nat) (y7:Option V),σ=[some (.int (n:Int)),some (.ref bb),some (.int (ri:Int)),some (.ref l),some (.int (i:Int)),some (.int (pc:Int)),some (.ref ln),y7]/\But ln J2 J4/\J4 ln=some (.lst (L.map iV))/\WkJ bs n ri i pc L/\2 * (n - cnt n pc) + L.length < m/\2 * (n - cnt n pc) + L.length<=30,fun σ' J4 ⟨pc',L2,y,e',b4,e4,wk',hlt,h30'⟩=>⟨_,hlt,pc',L2,y,e',b4,e4,wk',yh _,h30'⟩,?_⟩;ext;refine ⟨.inl ⟨rfl,_,.of e3'⟩,?_⟩;have pa:=wk.lin a (by simp);have han:a < n:=qer wk.lt pa;refine ⟨ln,_,iV a,rfl,rfl,e3',by rw [ya,yt,yd];simp,?_⟩;have ed:((L'++[a]).map iV).dropLast=L'.map iV:=by rw [yu];simp
     rw [ed];have b4:But ln J2 (upd J3 ln (.lst (L'.map iV))):=fun c o hc z=>by rw [qf hc];exact s3 _ _ (b3 c o hc z)
     have e4:upd J3 ln (.lst (L'.map iV)) ln=some (.lst (L'.map iV)):=qb;generalize upd J3 ln (.lst (L'.map iV))=J4 at b4 e4;have hbb4:J4 bb=some (.lst (qau bs)):=b4 _ _ (hlnJ (sJ _ _ hbb)) (s2 _ _ (sJ _ _ hbb));refine .inl (qae hbb4 (qy (zk (by omega))) ?_);ext;rw [and_nat];refine vU ?_;ext;rw [qbE,qc8];obtain ⟨wk2,dec⟩:=wk.next hb;generalize qcR (bs.getD a 0 &&& ri) pc=fr at wk2 dec;refine ⟨.inl ⟨rfl,_,.of e4⟩,?_⟩;ext;refine ⟨(n:Int),rfl,by omega,by omega,?_⟩;rw [Yd];refine zx (lo:=0) (fun k ys G=>G=J4/\ys=(zv k fr).map iV) ⟨rfl,rfl⟩ (fun k ys G hk hp=>?_) fun ys G hp=>?_
     ·obtain ⟨rfl,rfl⟩:=hp;rw [xX];ext;refine vI (by omega) ?_;ext;refine .inl (.inl (.inl ⟨rfl,rfl,?_⟩));rw [qdf];ext;have bl:=qaP k fr;refine qP (fun hc=>?_) (fun hc=>?_)
      ·ext;refine ⟨by rw [ya];exact qi (by omega),rfl,?_⟩;rw [qbh,yF hc,yu];rfl
      ·refine ⟨rfl,?_⟩;rw [qbh,yC hc,Yi]
     ·obtain ⟨rfl,rfl⟩:=hp;have bl:=qaP n fr;refine ⟨by rw [ya];exact yX (qi (by omega)),fun g hg=>?_⟩;have s5:=qF (Sr G) (o:=.lst ((zv n fr).map iV)) hg;have eg:upd G g (.lst ((zv n fr).map iV)) g=some (.lst ((zv n fr).map iV)):=qb;generalize upd G g (.lst ((zv n fr).map iV))=J5 at s5 eg;ext;have hL':L'.length<=30:=by rw [yt] at h30;omega
      refine ⟨ln,g,_,_,rfl,rfl,s5 _ _ e4,eg,by rw [ya,ya];exact yX (qi (by omega)),?_⟩;ext;exact ⟨_,_,_,rfl,fun c o hc z=>by rw [qf hc];exact s5 _ _ (b4 c o hc z),by rw [qb,yu],wk2,by omega,by omega⟩
   ·ext;have hn1:¬ Lft bs r i i:=fun z=>h1 ((hle i).mpr z);exact ⟨sJ,ri,ls,_,_,_,_,rfl,hri,lft_skip hle hn1,eJ,by rw [reps_off hn1];exact hA⟩
  ·obtain ⟨sJ,ri,ls,y4,y5,y6,y7,rfl,hri,hle,eJ,hA⟩:=hp;ext;exact q l ls J sJ hl eJ (hA.mono fun a ks z=>z.1)
noncomputable def qJ (r n:Nat):List Nat:=(List.range n).filter fun k=>r.testBit k
theorem kept_mem {k:Nat}:k∈qJ r n↔k < n/\r.testBit k=true:=by unfold qJ;rw [yp,Yw]
theorem qdI (r n:Nat):(qJ r n).Pairwise (· < ·):=List.Pairwise.filter _ List.pairwise_lt_range
theorem qcd {p q a b:Nat} (ha:(qJ r n)[p]?=some a) (hb:(qJ r n)[q]?=some b):p < q↔a < b:=by
 have hp:=xv.mp (qdI r n);obtain ⟨la,ea⟩:=yc.mp ha;obtain ⟨lb,eb⟩:=yc.mp hb;constructor
 ·intro h;rw [<- ea,<- eb];exact hp p q la lb h
 ·intro h;rcases Xf p q with z | z | z
  ·exact z
  ·subst z;rw [ea] at eb;omega
  ·have:=hp q p lb la z;rw [ea,eb] at this;omega
noncomputable def Sub (bs ns:List Nat) (r n:Nat):Prop:=∀ p q a b,(qJ r n)[p]?=some a->(qJ r n)[q]?=some b->((ns.getD p 0).testBit q=true↔qbD bs a b=true)
theorem rch_of {bs:List Nat} (h:Sub bs ns r n) (hl:ns.length=(qJ r n).length) (hb:∀ a,ns.getD a 0 < 2 ^ ns.length) {p a:Nat} (ha:(qJ r n)[p]?=some a) {q:Nat} (g:Rch ns p q):∃ b,(qJ r n)[q]?=some b/\Rr bs r a b:=by
 induction g with
 | zero=>exact ⟨a,ha,.zero⟩
 | @step c d _ t ih =>
  obtain ⟨x,hx,rx⟩:=ih;have hd:d < (qJ r n).length:=by rw [<- hl];exact qer (hb c) t
  refine ⟨_,yb hd,.step rx ((h c d _ _ hx (yb hd)).mp t) ?_⟩;exact (kept_mem.mp (Y0 hd)).2
theorem of_rch {bs:List Nat} (h:Sub bs ns r n) (hbn:∀ a b,qbD bs a b=true->b < n) {p a:Nat} (ha:(qJ r n)[p]?=some a) {b:Nat} (g:Rr bs r a b):∃ q,(qJ r n)[q]?=some b/\Rch ns p q:=by
 induction g with
 | zero=>exact ⟨p,ha,.zero⟩
 | @step c d _ t i ih =>
  obtain ⟨x,hx,rx⟩:=ih;have hd:d∈qJ r n:=kept_mem.mpr ⟨hbn _ _ t,i⟩;obtain ⟨q,hq⟩:=yf hd;exact ⟨q,hq,.step rx ((h x q _ _ hx hq).mpr t)⟩
theorem qdg {bs:List Nat} (h:Sub bs ns r n) (hl:ns.length=(qJ r n).length) (hb:∀ a,ns.getD a 0 < 2 ^ ns.length) (hbn:∀ a b,qbD bs a b=true->b < n) {p q a b:Nat} (ha:(qJ r n)[p]?=some a) (hq:(qJ r n)[q]?=some b):Rch ns p q↔Rr bs r a b:=by
 constructor
 ·intro g;obtain ⟨b',e,z⟩:=rch_of h hl hb ha g;rw [hq] at e;cases e;exact z
 ·intro g;obtain ⟨q',e,z⟩:=of_rch h hbn ha g
  have:q'=q:=by
   rcases Xf q' q with y | y | y
   ·have:=(qcd e hq).mp y;omega
   ·exact y
   ·have:=(qcd hq e).mp y;omega
  rw [this] at z;exact z
theorem rep_iff {bs:List Nat} (h:Sub bs ns r n) (hl:ns.length=(qJ r n).length) (hb:∀ a,ns.getD a 0 < 2 ^ ns.length) (hbn:∀ a b,qbD bs a b=true->b < n) {p a:Nat} (ha:(qJ r n)[p]?=some a):qda ns p=true↔Lft bs r a a:=by
 rw [isRep_iff];have hk:=kept_mem.mp (ye ha);constructor
 ·intro g;refine ⟨hk.2,fun j hj rj z=>?_⟩;obtain ⟨q,hq⟩:=yf (kept_mem.mpr ⟨by omega,rj⟩:j∈qJ r n);exact g q ((qcd hq ha).mpr hj) ((qdg h hl hb hbn hq ha).mpr z)
 ·intro g j hj z;have hjl:j < (qJ r n).length:=XB hj (yc.mp ha).1;have hjj:=yb hjl;exact g.2 _ ((qcd hjj ha).mp hj) (kept_mem.mp (Y0 hjl)).2 ((qdg h hl hb hbn hjj ha).mp z)
theorem qdJ (K:List Nat):(List.range K.length).map (fun i=>K.getD i 0)=K:=by
 refine List.ext_getElem (by simp) fun i h1 h2=>?_;rw [List.getElem_map,List.getElem_range,Yk,yb h2];rfl
theorem qce {K:List Nat} {p:Nat} (h:p < K.length):K[p]?=some (K.getD p 0):=by rw [Yk,yb h];rfl
theorem qdK (K:List Nat) (f:Nat->Bool):K.filter f=((List.range K.length).filter fun p=>f (K.getD p 0)).map fun p=>K.getD p 0:=by
 conv=>lhs;rw [<- qdJ K]
 rw [X5];rfl
theorem qdL (f:Nat->Bool) (h:∀ k,k < n->f k=true->r.testBit k=true):(List.range n).filter f=(qJ r n).filter f:=by
 unfold qJ;rw [List.filter_filter];apply Y8;intro k hk;have:=h k (Yw.mp hk)
 cases e:f k with
 | false=>rfl
 | true=>rw [this e];rfl
open Classical in
theorem pieces_eq {bs:List Nat} (hn:ss.Nodup) (h:Sub bs ns r ss.length) (hl:ns.length=(qJ r ss.length).length) (hb:∀ a,ns.getD a 0 < 2 ^ ns.length) (hbn:∀ a b,qbD bs a b=true->b < ss.length) :
  (qew ns ((qJ r ss.length).map (tn ss)).length).map (qcI ((qJ r ss.length).map (tn ss)) ns)=((zP bs r ss.length).map (qa1 bs r ss.length)).map fun c=>c.map (tn ss):=by
 have hK:∀ k∈qJ r ss.length,k < ss.length/\r.testBit k=true:=fun k hk=>kept_mem.mp hk
 have e1:zP bs r ss.length=((List.range (qJ r ss.length).length).filter fun p=>qda ns p).map fun p=>(qJ r ss.length).getD p 0:=by
  have:zP bs r ss.length=(qJ r ss.length).filter fun k=>decide (Lft bs r k k):=qdL _ fun k _ hk=>(yk hk).1;rw [this,qdK]
  congr 1
  apply Y8;intro p hp;rw [Yq,yR];exact (rep_iff h hl hb hbn (qce (Yw.mp hp))).symm
 have e2:∀ p,p < (qJ r ss.length).length->qcI ((qJ r ss.length).map (tn ss)) ns p=(qa1 bs r ss.length ((qJ r ss.length).getD p 0)).map (tn ss):=fun p hp=>by
  have hat:=qce hp;have hka:=hK _ (ye hat);have c1:qa1 bs r ss.length ((qJ r ss.length).getD p 0)=(qJ r ss.length).filter fun c=>decide (Rr bs r ((qJ r ss.length).getD p 0) c):=qdL _ fun k _ hk=>(yk hk).in_ hka.2
  have nd:((qJ r ss.length).map (tn ss)).Nodup:=by
   refine YF.mpr ((qdI r ss.length).imp_of_mem fun {a b} ha hb' hlt e=>?_);have:=zA hn (hK a ha).1 (hK b hb').1 e;omega
  rw [c1,qdK];unfold qcI
  have c2:(qJ r ss.length).map (tn ss)=(List.range (qJ r ss.length).length).map fun q=>tn ss ((qJ r ss.length).getD q 0):=by
   conv=>lhs;rw [<- qdJ (qJ r ss.length)]
   rw [Xm];rfl
  have c3:∀ q,q < (qJ r ss.length).length->((qJ r ss.length).map (tn ss)).idxOf (tn ss ((qJ r ss.length).getD q 0))=q:=fun q hq=>qcJ nd (by rw [yd,qce hq];rfl);generalize hM:(qJ r ss.length).map (tn ss)=M at c2 c3;rw [c2,X5,Xm,<- c2]
  have c4:(List.range (qJ r ss.length).length).filter ((fun s=>decide (Rch ns p (M.idxOf s))) ∘ fun q=>tn ss ((qJ r ss.length).getD q 0))=(List.range (qJ r ss.length).length).filter fun q=>decide (Rr bs r ((qJ r ss.length).getD p 0) ((qJ r ss.length).getD q 0)):=by
   apply Y8;intro q hq;have hq':=Yw.mp hq;show decide (Rch ns p (M.idxOf (tn ss ((qJ r ss.length).getD q 0))))=_;rw [c3 q hq',Yq,yR,yR];exact qdg h hl hb hbn hat (qce hq')
  rw [c4];rfl
 rw [e1,Xm,Xm];unfold qew;rw [ya];apply List.map_congr_left;intro p hp;exact e2 p (Yw.mp (yp.mp hp).1)
theorem Kl:FnScope ["self","places","out","place","names","kept"] ["self","places"] (qg jq):=fS
noncomputable def zX (l:List Str) (tps:List (Str×Str)):List (Str×Str):=tps.filter fun q=>decide (q.1∈l)&&decide (q.2∈l)
noncomputable def zC (l bar:List Str):List Str:=l.filter fun s=>!decide (s∈bar)
theorem qdM (l bar:List Str):(zC l bar).length<=l.length:=yT _ _
theorem mem_out {l:List Str}:a∈zC l bar↔a∈l/\a∉bar:=by unfold zC;rw [yp];simp
noncomputable def OutN (ss:List Str) (kvs:List (Key×V)) (xs:List Str):Prop:=∀ (j:Nat) (s:Str),ss[j]?=some s->(jS kvs (.inl (j:Int):Key)).isSome=decide (s∈xs)
inductive spWo (cw:Addr) (vs:List V) (H:Hp) (Q:VK) (E:XK):Prop|mk (x a:Addr) (ss:List Str) (ns:List Nat) (tps:List (Str×Str)) (bar:List Str) (_:vs=[.ref x,.ref a]) (_:Wt cw H x ss ns tps) (_:(qR ss ns ss.length).length<=30) (_:H a=some (.lst (bar.map V.str))) (_:(∀ s∈bar,s∈ss)) (_:bar.length<=14) (_:∀ (y:Addr) (ms:List Nat) (H':Hp),L2.Same H H'->Wt cw H' y (zC ss bar) ms (zX (zC ss bar) tps)->Q (.ref y) H')
theorem ok_wo (F:Fun K "without" "Web.without" jq f fd) (T:Txt K mg cc cw) (Kh:MethOk P w K mg base CX0 4 cw "number_of" ["self","place"] (spNum cw)) (Kx:MethOk P w K mg base CX0 7 cw "ties" ["self"] (spTs cw)) (uX:MakeOk P w K mg base CX0 5 cw "Web" ["self","names","ties"] (spWeb cw)):FnOk P w K mg base CX0 8 f fd ["self","places"] (spWo cw):=by
 refine F.ok Kl fun _ _ _ _ H vs Q E hr h=>?_
 ·obtain ⟨x,a,ss,ns,tps,bar,rfl,W,h30,ha,hv,h14,q⟩:=h;have hu:=jP hr;obtain ⟨wx,dd,ol,nn,hb,hdd,hol,hnn,hw⟩:=id W.web;have few:=hw.few;refine ⟨_,(qc (qT (je (qZ (qp (qc3 (K:=K) rfl) rfl T.b_isinstance YT (qa (pv 1) (qa (jA (qa (jX (v:=.ty "list") rfl T.b_list Xa rfl) (qa (jX (v:=.ty "tuple") rfl T.b_tuple boot_tuple rfl) qd))) qd))))) (qe jo) qv)
 (qc (qj (i:=2) Kl.nd rfl (Xw rfl) jZ)
 (qc (ji yV rfl (qQ (K:=K) rfl (pv 1)) (qq (i:=3) Kl.nd rfl (yE rfl))
 (qe (jK za (jJ (pv 2) (qE Kh (hmR hr) (pv 0) (qa (pv 3) qd)) (jL hu)))))
 (qc (qj (i:=4) Kl.nd rfl (Xw rfl) (jg (sc:=qg jq) (XN:=["self","places","out","place","names","kept"]) ["name","out","self"] 1 [2,0] rfl rfl rfl (by decide +kernel) rfl (by decide +kernel)
  (qQ (K:=K) rfl (qA (K:=K) rfl (pv 0) rfl)) (fun _ _ _ _=>(qq (i:=0) (show (["name","out","self"]:List Str).Nodup by decide +kernel) rfl (yE rfl))) qS
  (fun _ _ _ _=>(q9 (qo (zg (K:=K) rfl hu) (qr (qt (K:=K) rfl hu) (qA (K:=K) rfl (pv 2) rfl) (pv 0) (fun _ _=>rfl)) (pv 1) (by with_unfolding_all rfl))))
  (fun _ _ _ _=>(pv 0))))
 (qc (qaV (sc:=qg jq) (XN:=["self","places","out","place","names","kept"]) ["tie","names"] 1 [4] rfl rfl rfl (by decide +kernel) rfl (by decide +kernel) (i:=5) Kl.nd rfl rfl
  (qQ (K:=K) rfl (qX Kx (hmR hr) (pv 0))) (fun _ _ _ _=>(qq (i:=0) (show (["tie","names"]:List Str).Nodup by decide +kernel) rfl (yE rfl))) qS
  (fun _ _ _ _=>(q9 (PW.pt (qbj (qo (zS (K:=K) rfl hu) (qr (qt (K:=K) rfl hu) (pv 0) qh (fun _ _=>rfl)) (pv 1) (by with_unfolding_all rfl)) (qbX (qo (zS (K:=K) rfl hu) (qr (qt (K:=K) rfl hu) (pv 0) qh (fun _ _=>rfl)) (pv 1) (by with_unfolding_all rfl)))))))
  (fun _ _ _ _=>(pv 0)))
 (qe (qm (qaE uX (hmR hr) (qa (pv 4) (qa (pv 5) qd)))))))))),?_⟩
  ext;refine ⟨by show 2<=sizeLine;decide,fun g hg=>?_⟩;have s0:=qF (Sr H) (o:=.tup [.ty "list",.ty "tuple"]) hg;ext;refine qc7 (s0 _ _ ha) qb ?_;ext;refine yq ?_;ext;intro d hd;have s1:=qF s0 (o:=.dK []) hd;have ed:upd (upd H g (.tup [.ty "list",.ty "tuple"])) d (.dK []) d=some (.dK []):=qb;have hd0:H d=none:=s0.free hd;generalize upd (upd H g (.tup [.ty "list",.ty "tuple"])) d (.dK [])=H1 at s1 ed;ext;refine .inl ⟨⟨_,.of (s1 _ _ ha)⟩,qV (xs:=bar.map V.str) (fun i σ J=>L2.Same H J/\∃ (kvs:List (Key×V)) (y3 y4 y5:Option V),σ=[some (.ref x),some (.ref a),some (.ref d),y3,y4,y5]/\J d=some (.dK kvs)/\kvs.length<=i/\OutN ss kvs (bar.take i)) ⟨s1,[],_,_,_,rfl,ed,yh _,fun j s' _=>by simp [jS]⟩ (fun i σ J _ hp=>.of (hp.1 _ _ ha)) (fun i y σ J hy hp=>?_) fun σ J hp=>?_⟩
  ·obtain ⟨sJ,kvs,y3,y4,y5,rfl,edJ,hkl,hout⟩:=hp;obtain ⟨v,gv,rfl⟩:=jO hy;have hil:=(yc.mp gv).1;have htk:bar.take (i + 1)=bar.take i++[v]:=by rw [yH,gv];rfl
   obtain ⟨j,gj⟩:=yf (hv v (ye gv));ext;refine ⟨x,wx,_,rfl,sJ _ _ hb,jU (by decide +kernel),?_⟩;ext;refine ⟨x,ss,ns,v,j,rfl,W.web.same sJ,gj,fun J2 s2=>?_⟩;refine .inr ⟨d,_,rfl,DPut.k (k:=Sum.inl (j:Int)) (s2 _ _ edJ) (qi (by omega)),?_⟩;refine ⟨qaH (sJ.trans s2) hd0,_,_,_,_,rfl,qb,?_,fun j' s' gj'=>?_⟩
   ·have:=jm kvs (Sum.inl (j:Int):Key) (V.bl true);omega
   ·rw [qad,htk];by_cases e:j'=j
    ·subst e;rw [yF rfl];have:s'=v:=by rw [gj'] at gj;exact ym gj
     simp [this]
    ·rw [yC (fun z=>e (by have:=Sum.inl.inj z;omega)),hout j' s' gj'];have hne:¬ s'=v:=fun z=>e (qz hw.nd (by rw [z] at gj';exact gj') gj);simp [hne]
  ·obtain ⟨sJ,kvs,y3,y4,y5,rfl,edJ,_,hout⟩:=hp;rw [show (bar.map V.str).length=bar.length from ya _,yM] at hout;have holJ:=sJ _ _ hol;ext;refine .inl ⟨x,cw,wx,_,.ref ol,rfl,sJ _ _ hb,T.wcl,T.wo,qaJ,?_⟩;refine .inl ⟨⟨_,SqL.of holJ⟩,qK (K:=K) (fun i ys H'=>H'=J/\ys=(zC (ss.take i) bar).map V.str) ⟨rfl,rfl⟩ (fun i ys H' _ hp=>by rw [hp.1];exact SqL.of holJ) (fun i y ys H' hy hp=>?_) fun ys H' hp=>?_⟩
   ·obtain ⟨rfl,rfl⟩:=hp;rw [yd] at hy;obtain ⟨sy,gi,rfl⟩:=yn.mp hy;have hil:=(yc.mp gi).1;obtain ⟨i',hi',gi',vi⟩:=jT (i:=0) (ye gi);rw [xB,qz hw.nd gi' gi] at vi;have hle:(zC (ss.take i) bar).length<=i:=yi (qdM _ _) (by rw [yL];omega)
    have hst:zC (ss.take (i + 1)) bar=zC (ss.take i) bar++(if (!decide (sy∈bar))=true then [sy] else []):=by
     unfold zC;rw [yH,gi,yW];show _++[sy].filter _=_;rw [yS,Yv]
    ext;refine .inl ⟨x,cw,wx,_,.ref dd,rfl,sJ _ _ hb,T.wcl,T.wn,jN,?_⟩;ext;refine .inr ⟨dd,.int i,rfl,?_,?_⟩
    ·have:=DGet.k (k:=Sum.inr sy) (sJ _ _ hdd);rw [vi] at this;exact this
    ext;refine .inr (.inl ⟨d,_,rfl,DGet.k (k:=Sum.inl (i:Int)) edJ,?_⟩);have ev:(if true=true then !(jS kvs (Sum.inl (i:Int):Key)).isSome else (jS kvs (Sum.inl (i:Int):Key)).isSome)=!decide (sy∈bar):=by rw [yF rfl,hout i sy gi]
    rw [ev,hst];refine ⟨_,rfl,?_⟩
    cases (!decide (sy∈bar)) with
    | true =>
     refine zN ?_;ext;exact ⟨by rw [ya];exact qi (by omega),rfl,by rw [yF rfl,yu];rfl⟩
    | false=>exact qP (fun h=>by cases h) fun _=>⟨rfl,by rw [yC (by decide),Yi]⟩
   ·obtain ⟨rfl,rfl⟩:=hp;rw [show (ss.map V.str).length=ss.length from ya _,yM];have hdl:=qdM ss bar;refine ⟨by rw [ya];exact yX (qi (by omega)),fun m hm=>?_⟩;have s3:=qF sJ (o:=.lst ((zC ss bar).map V.str)) hm;have em:upd H' m (.lst ((zC ss bar).map V.str)) m=some (.lst ((zC ss bar).map V.str)):=qb;generalize upd H' m (.lst ((zC ss bar).map V.str))=J3 at s3 em;ext;refine ⟨x,wx,_,rfl,s3 _ _ hb,jU (by decide +kernel),?_⟩;ext;refine ⟨x,ss,ns,rfl,W.web.same s3,fun l ts J4 s4 hl0 hl hl196 hAl=>?_⟩;have em4:=s4 _ _ em;obtain ⟨dps,hdp⟩:∃ dps,dps=qR ss ns ss.length:=⟨_,rfl⟩;rw [<- hdp] at hAl;refine .inl ⟨⟨_,.of hl⟩,qK (xs:=ts.map V.ref) (fun i ys G=>G=J4/\∃ us:List Addr,ys=us.map V.ref/\us.length<=i/\All2 (fun t ab=>J4 t=some (.tup [.str ab.1,.str ab.2])) us (zX (zC ss bar) (dps.take i))) ⟨rfl,[],rfl,yh _,.nil⟩ (fun i ys G _ hp'=>by rw [hp'.1];exact .of hl) (fun i y ys G hy hp'=>?_) fun ys G hp'=>?_⟩
    ·obtain ⟨rfl,us,rfl,hul,hU⟩:=hp';rw [yd] at hy;obtain ⟨t,ht,rfl⟩:=yn.mp hy;have hi:=(yc.mp ht).1;obtain ⟨ab,hab⟩:∃ ab,dps[i]?=some ab:=⟨_,yb (by rw [<- hAl.len];exact hi)⟩;obtain ⟨_,_,z3⟩:=hAl.at_ i t ab ht hab
     have hst:zX (zC ss bar) (dps.take (i + 1))=zX (zC ss bar) (dps.take i)++(if (decide (ab.1∈zC ss bar)&&decide (ab.2∈zC ss bar))=true then [ab] else []):=by
      unfold zX;rw [yH,hab,yW];show _++[ab].filter _=_;rw [yS,Yv]
     rw [hst];ext;refine .inl (qat z3 (v:=.str ab.1) (qy (j:=0) rfl) ?_);ext;refine qcb em4 ?_;refine ⟨_,rfl,?_⟩
     cases decide (ab.1∈zC ss bar) with
     | false=>exact qP (fun h=>by cases h) fun _=>qP (fun h=>by cases h) fun _=>⟨rfl,us,rfl,by omega,by rw [Bool.false_and,yC (by decide),Yi];exact hU⟩
     | true =>
      refine zN ?_;ext;refine .inl (qat z3 (v:=.str ab.2) (qy (j:=1) rfl) ?_);ext;refine qcb em4 ?_;refine ⟨_,rfl,?_⟩;rw [Bool.true_and]
      cases decide (ab.2∈zC ss bar) with
      | false=>exact qP (fun h=>by cases h) fun _=>⟨rfl,us,rfl,by omega,by rw [yC (by decide),Yi];exact hU⟩
      | true =>
       refine zN ?_;ext;exact ⟨by rw [ya];exact qi (by omega),rfl,us++[t],by rw [yu];rfl,by rw [yt];simp;omega,by rw [yF rfl];exact hU.snoc z3⟩
    ·obtain ⟨rfl,us,rfl,hul,hU⟩:=hp';rw [show (ts.map V.ref).length=dps.length by rw [ya,hAl.len],yM] at hU;rw [ya] at hul;refine ⟨by rw [ya];exact yX (qi (by omega)),fun kl hkl=>?_⟩;have s04:=s3.trans s4;have s5:=qF s04 (o:=.lst (us.map V.ref)) hkl;have s45:=qF (Sr G) (o:=.lst (us.map V.ref)) hkl;have ekl:upd G kl (.lst (us.map V.ref)) kl=some (.lst (us.map V.ref)):=qb;have hPk:PL (upd G kl (.lst (us.map V.ref))) kl us (zX (zC ss bar) dps):=⟨ekl,hU.mono fun _ _ z=>s45 _ _ z⟩;have em5:=s45 _ _ em4;generalize upd G kl (.lst (us.map V.ref))=G5 at s5 ekl hPk em5
     have inD:∀ {a b:Str},(a,b)∈zX (zC ss bar) dps↔(a,b)∈dps/\a∈zC ss bar/\b∈zC ss bar:=fun {a b}=>by
      unfold zX;rw [yp,Ye,yR,yR]
     have hg:TGo (zC ss bar) (zX (zC ss bar) dps):=by
      refine ⟨yi (yT _ _) (by rw [hdp];exact h30),fun ab hab=>?_,?_⟩
      ·obtain ⟨h1,h2,h3⟩:=inD.mp hab;rw [hdp] at h1;exact ⟨h2,h3,W.ir _ _ ((zc hw W.adj).mp h1).1⟩
      ·refine Y3 (fun {q r} hq hr hne=>⟨hne,fun z=>?_⟩) ((X8).nodup (by rw [hdp];exact qel hw):(zX (zC ss bar) dps).Nodup);have q1:=(inD.mp hq).1;have r1:=(inD.mp hr).1;rw [hdp] at q1 r1;obtain ⟨_,i1,j1,l1,a1,b1⟩:=(zc hw W.adj).mp q1;obtain ⟨_,i2,j2,l2,a2,b2⟩:=(zc hw W.adj).mp r1;rw [z] at a1 b1;have:=qz hw.nd a1 b2;have:=qz hw.nd b1 a2;omega
     ext;refine fun y dx hy hdx hne=>qfJ em5 (by omega) (hw.nd.filter _) (fun z hz=>hw.nm z (mem_out.mp hz).1) hPk hg hy hdx hne fun ms H9 s9 _ W9=>⟨rfl,?_⟩;refine q y ms H9 (s5.trans s9) (W9.to (fun ab hab=>?_) fun a b ha hb'=>?_)
     ·unfold zX at hab;obtain ⟨h1,h2⟩:=yp.mp hab;rw [Ye,yR,yR] at h2;exact ⟨h2.1,h2.2,(W.ok _ h1).2.2⟩
     ·have k1:∀ {a b:Str},a∈zC ss bar->b∈zC ss bar->((a,b)∈zX (zC ss bar) tps↔(a,b)∈tps):=fun ha hb=>by
       unfold zX;rw [yp,Ye,yR,yR];exact ⟨fun z=>z.1,fun z=>⟨z,ha,hb⟩⟩
      unfold tA;rw [k1 ha hb',k1 hb' ha,inD,inD,hdp];constructor
      ·rintro (z | z)
       ·exact ((zc hw W.adj).mp z.1).1
       ·exact ((zc hw W.adj).mp z.1).1.symm
      ·intro z;obtain ⟨ia,ga⟩:=yf (mem_out.mp ha).1;obtain ⟨ib,gb⟩:=yf (mem_out.mp hb').1;rcases Xf ia ib with k | k | k
       ·exact .inl ⟨(zc hw W.adj).mpr ⟨z,ia,ib,k,ga,gb⟩,ha,hb'⟩
       ·subst k;rw [ga] at gb;exact absurd (ym gb) (W.ir _ _ z)
       ·exact .inr ⟨(zc hw W.adj).mpr ⟨z.symm,ib,ia,k,gb,ga⟩,hb',ha⟩
noncomputable def qeX (ks:List Str):Bool:=decide (ks.length % 2=1)
theorem weak (hn:ss.Nodup) (g:PGo ss tps qs) {ps:List (List Str)} (h1:∀ p∈ps,p.Nodup/\(∀ a∈p,a∈ss/\a∉bar)/\∀ a∈p,∀ b,tA tps a b->b∈bar\/b∈p) (h2:ps.Pairwise fun p q=>∀ a∈p,a∉q):(ps.filter qeX).length + 2 * qs.length<=ss.length + bar.length:=by
 have key:∀ p∈ps,qeX p=true->∃ t,(t∈p/\pt qs t=none)\/(t∈bar/\∃ a∈p,pt qs a=some t):=fun p hp ho=>Yu fun hc=>by
  obtain ⟨k1,k2,k3⟩:=h1 p hp
  have:=qeE (g:=pt qs) p.length (yh _) k1 fun x hx=>by
   cases e:pt qs x with
   | none=>exact absurd ⟨x,.inl ⟨hx,e⟩⟩ hc
   | some y =>
    have ht:=g.fn.tie x y e;rcases k3 x hx y ht with z | z
    ·exact absurd ⟨y,.inr ⟨z,x,hx,e⟩⟩ hc
    ·refine ⟨y,z,rfl,fun eq=>?_,g.fn.sym x y e⟩;rcases qdD e with m | m
     ·exact (g.inn _ m).2.2.2 eq.symm
     ·exact (g.inn _ m).2.2.2 eq
  have:=yk ho;omega
 have T:∃ T:List Str->Str,∀ p∈ps,qeX p=true->(T p∈p/\pt qs (T p)=none)\/(T p∈bar/\∃ a∈p,pt qs a=some (T p)):=
  haveI:Nonempty Str:=⟨""⟩
  ⟨fun p=>Classical.epsilon fun t=>(t∈p/\pt qs t=none)\/(t∈bar/\∃ a∈p,pt qs a=some t),fun p hp ho=>Classical.epsilon_spec (key p hp ho)⟩
 obtain ⟨T,hT⟩:=T;have hm:∀ p∈ps.filter qeX,p∈ps/\qeX p=true:=fun p hp=>yp.mp hp
 have nd:((ps.filter qeX).map T).Nodup:=by
  refine YF.mpr ((h2.filter qeX).imp_of_mem fun {p q} hp hq hd e=>?_);obtain ⟨p1,p2⟩:=hm p hp;obtain ⟨q1,q2⟩:=hm q hq;rcases hT p p1 p2 with ⟨x1,x2⟩ | ⟨x1,a,x2,x3⟩<;>rcases hT q q1 q2 with ⟨y1,y2⟩ | ⟨y1,b,y2,y3⟩
  ·exact hd _ x1 (by rw [e];exact y1)
  ·exact ((h1 p p1).2.1 _ x1).2 (by rw [e];exact y1)
  ·exact ((h1 q q1).2.1 _ y1).2 (by rw [<- e];exact x1)
  ·have k1:=g.fn.sym _ _ x3;have k2:=g.fn.sym _ _ y3;rw [e,k2] at k1;cases k1;exact hd _ x2 y2
 have:=qdC nd (m:=snL (pt qs) ss++bar) fun x hx=>by
  obtain ⟨p,hp,rfl⟩:=yQ.mp hx;obtain ⟨p1,p2⟩:=hm p hp;rcases hT p p1 p2 with ⟨x1,x2⟩ | ⟨x1,_⟩
  ·exact yP _ (mem_sn.mpr ⟨((h1 p p1).2.1 _ x1).1,x2⟩)
  ·exact yO _ x1
 rw [ya,yt] at this;have c1:=qcN (f:=pt qs) (ss:=ss);have c2:=g.cnt hn;omega
structure BarJ (ss:List Str) (TI:List (Nat×Nat)) (bs gs:List Nat):Prop where
 ok:NOk ss
 tj:TJ ss.length TI
 bt:BtJ ss.length TI bs
 nd:gs.Nodup
 lt:∀ k∈gs,k < ss.length
noncomputable abbrev rmJ (gs:List Nat) (n:Nat):Nat:=(zu gs n).sum
noncomputable def pcJ (bs gs:List Nat) (n:Nat):List (List Nat):=(zP bs (rmJ gs n) n).map (qa1 bs (rmJ gs n) n)
noncomputable def odJ (bs gs:List Nat) (n:Nat):Nat:=((pcJ bs gs n).filter fun c=>decide (c.length % 2=1)).length
theorem BtJ.sym {TI:List (Nat×Nat)} {bs:List Nat} (h:BtJ n TI bs):∀ a b,qbD bs a b=true->qbD bs b a=true:=fun a b z=>(h.2.2 b a).mpr ((h.2.2 a b).mp z).symm
section
variable {ss:List Str} {TI:List (Nat×Nat)} {bs gs:List Nat}
theorem qes (B:BarJ ss TI bs gs) {k:Nat} (hk:k < ss.length):tn ss k∈gs.map (tn ss)↔k∈gs:=by
 rw [yQ];constructor
 ·rintro ⟨j,hj,ej⟩;rw [<- zA B.ok.nd (B.lt j hj) hk ej];exact hj
 ·exact fun z=>⟨k,z,rfl⟩
theorem qdN (B:BarJ ss TI bs gs):zC ss (gs.map (tn ss))=(qJ (rmJ gs ss.length) ss.length).map (tn ss):=by
 unfold zC
 have e:ss=(List.range ss.length).map (tn ss):=by
  refine List.ext_getElem (by simp) fun i h1 h2=>?_;rw [List.getElem_map,List.getElem_range];have:=qca h1;rw [yb h1] at this;exact ym this
 generalize hM:gs.map (tn ss)=M
 conv=>lhs;rw [e]
 rw [X5]
 congr 1
 unfold qJ;apply Y8;intro k hk;have hk':=Yw.mp hk;show (!decide (tn ss k∈M))=(rmJ gs ss.length).testBit k;rw [Yq,(qcc gs ss.length).2 k,XE,decide_eq_false_iff_not,<- hM,qes B hk'];exact ⟨fun z=>⟨hk',z⟩,fun z=>z.2⟩
theorem qfK (B:BarJ ss TI bs gs) (hi:i < ss.length) (hj:j < ss.length):tA (TI.map (nmP ss)) (tn ss i) (tn ss j)↔qbD bs i j=true:=by
 have mi:∀ i j,i < ss.length->j < ss.length->((tn ss i,tn ss j)∈TI.map (nmP ss)↔(i,j)∈TI):=fun i j hi hj=>by
  rw [yQ];constructor
  ·rintro ⟨q,hq,e⟩;have hq2:=B.tj.2.1 q hq;have e1:=zA B.ok.nd (by omega) hi (congrArg Prod.fst e);have e2:=zA B.ok.nd hq2.2 hj (congrArg Prod.snd e);have:q=(i,j):=x0 e1 e2;rw [<- this];exact hq
  ·exact fun z=>⟨(i,j),z,rfl⟩
 unfold tA;rw [mi i j hi hj,mi j i hj hi,B.bt.2.2 i j]
theorem sub_wt (B:BarJ ss TI bs gs) (ad:Adj (zC ss (gs.map (tn ss))) ms (zX (zC ss (gs.map (tn ss))) (TI.map (nmP ss)))):Sub bs ms (rmJ gs ss.length) ss.length:=by
 intro p q a b ha hb;rw [qdN B] at ad;have la:=(kept_mem.mp (ye ha)).1;have lb:=(kept_mem.mp (ye hb)).1;have h1:=ad p q (tn ss a) (tn ss b) (by rw [yd,ha];rfl) (by rw [yd,hb];rfl);have ma:tn ss a∈(qJ (rmJ gs ss.length) ss.length).map (tn ss):=yQ.mpr ⟨a,ye ha,rfl⟩;have mb:tn ss b∈(qJ (rmJ gs ss.length) ss.length).map (tn ss):=yQ.mpr ⟨b,ye hb,rfl⟩
 have kt:∀ s t,s∈(qJ (rmJ gs ss.length) ss.length).map (tn ss)->t∈(qJ (rmJ gs ss.length) ss.length).map (tn ss)->((s,t)∈zX ((qJ (rmJ gs ss.length) ss.length).map (tn ss)) (TI.map (nmP ss))↔(s,t)∈TI.map (nmP ss)):=fun s t hs ht=>by
  unfold zX;rw [yp];exact ⟨fun z=>z.1,fun z=>⟨z,by simp only [yG hs,yG ht];rfl⟩⟩
 rw [h1,kt _ _ ma mb,kt _ _ mb ma];exact qfK B la lb
theorem pcs_J (B:BarJ ss TI bs gs) (hw:WOk (zC ss (gs.map (tn ss))) ms) (ad:Adj (zC ss (gs.map (tn ss))) ms (zX (zC ss (gs.map (tn ss))) (TI.map (nmP ss)))):(qew ms (zC ss (gs.map (tn ss))).length).map (qcI (zC ss (gs.map (tn ss))) ms)=(pcJ bs gs ss.length).map fun c=>c.map (tn ss):=by
 have hs:=sub_wt B ad;obtain ⟨h1,_,_,h4,_⟩:=hw;rw [qdN B] at h1 h4 ⊢;rw [ya] at h1
 exact pieces_eq B.ok.nd hs h1 (by rw [h1];rw [ya] at h4;exact h4) fun a b z=>by
  rcases (B.bt.2.2 a b).mp z with y | y
  ·exact (B.tj.2.1 _ y).2
  ·have:=B.tj.2.1 _ y;exact XB this.1 this.2
theorem qfd (B:BarJ ss TI bs gs) (g:PGo ss (TI.map (nmP ss)) qs):odJ bs gs ss.length + 2 * qs.length<=ss.length + gs.length:=by
 have hr:=(qcc gs ss.length).2;have cm:∀ k c,c∈qa1 bs (rmJ gs ss.length) ss.length k↔c < ss.length/\Rr bs (rmJ gs ss.length) k c:=fun k c=>by unfold qa1;rw [yp,Yw];simp
 have rm:∀ k,k∈zP bs (rmJ gs ss.length) ss.length↔k < ss.length/\Lft bs (rmJ gs ss.length) k k:=fun k=>by unfold zP;rw [yp,Yw];simp
 have:=weak (bar:=gs.map (tn ss)) (ps:=(pcJ bs gs ss.length).map fun c=>c.map (tn ss)) B.ok.nd g (fun p hp=>?_) ?_
 ·rw [X5,ya,ya] at this
  have e:(qeX ∘ fun c:List Nat=>c.map (tn ss))=fun c=>decide (c.length % 2=1):=by
   funext c;show decide ((c.map (tn ss)).length % 2=1)=_;rw [ya]
  rw [e] at this;exact this
 ·obtain ⟨c0,hc0,rfl⟩:=yQ.mp hp;obtain ⟨k,hk,rfl⟩:=yQ.mp hc0;have hk':=(rm k).mp hk;have inn:∀ c,c∈qa1 bs (rmJ gs ss.length) ss.length k->c < ss.length/\c∉gs:=fun c hc=>(hr c).mp (((cm k c).mp hc).2.in_ hk'.2.1);refine ⟨?_,fun a ha=>?_,fun a ha b hb=>?_⟩
  ·have nd:(qa1 bs (rmJ gs ss.length) ss.length k).Nodup:=by unfold qa1;exact List.nodup_range.filter _
   exact YF.mpr (nd.imp_of_mem fun {x y} hx hy hne e=>hne (zA B.ok.nd (inn x hx).1 (inn y hy).1 e))
  ·obtain ⟨c,hc,rfl⟩:=yQ.mp ha;have:=inn c hc;exact ⟨qcO this.1,fun z=>this.2 ((qes B this.1).mp z)⟩
  ·obtain ⟨c,hc,rfl⟩:=yQ.mp ha;have hcl:=(inn c hc).1;have hbs:b∈ss:=hb.elim (fun z=>(qdd B.ok.nd B.tj _ z).2.1) fun z=>(qdd B.ok.nd B.tj _ z).1;obtain ⟨d,hd⟩:=yf hbs;have hdl:=(yc.mp hd).1;have eb:b=tn ss d:=by rw [qca hdl] at hd;exact (ym hd).symm
   subst eb;by_cases hg:d∈gs
   ·exact .inl ((qes B hdl).mpr hg)
   ·exact .inr (yQ.mpr ⟨d,(cm k d).mpr ⟨hdl,.step ((cm k c).mp hc).2 ((qfK B hcl hdl).mp hb) ((hr d).mpr ⟨hdl,hg⟩)⟩,rfl⟩)
 ·unfold pcJ;rw [Xm];have inc:(zP bs (rmJ gs ss.length) ss.length).Pairwise (· < ·):=by unfold zP;exact List.pairwise_lt_range.filter _
  refine YF.mpr (inc.imp_of_mem fun {k k'} hk hk' hlt a ha ha'=>?_);obtain ⟨c,hc,rfl⟩:=yQ.mp ha;obtain ⟨c',hc',e⟩:=yQ.mp ha';have h1:=(cm _ _).mp hc;have h2:=(cm _ _).mp hc';have:=zA B.ok.nd h2.1 h1.1 e;subst this;have k1:=(rm k).mp hk;have k2:=(rm k').mp hk';exact k2.2.2 k hlt k1.2.1 (h1.2.trans (h2.2.symm B.bt.sym k2.2.1))
end
theorem uk:FnScope ["web","pairs","partners"] ["web","pairs"] (qg zY):=fS
theorem ub:FnScope ["web","bar"] ["web","bar"] (qg jG):=fS
theorem uD:FnScope ["web","bar"] ["web","bar"] (qg jW):=fS
theorem uY:FnScope ["web","bar"] ["web","bar"] (qg qaQ):=fS
theorem PGo.grt (hi:∀ a b,tA tps a b->a≠b) (g:PGo ss tps qs):Gr (tA tps) (pt qs):=⟨fun z=>Or.symm z,fun z=>hi _ _ z,fun {a b} e=>g.fn.sym a b e,fun {a b} e=>g.fn.tie a b e⟩
theorem qfe {rs:List (Str×Str)} (hi:∀ a b,tA tps a b->a≠b) (hn:ss.Nodup) (g:PGo ss tps qs) (m:MxF ss tps qs) (g':PGo ss tps rs):rs.length<=qs.length:=by
 obtain ⟨S,F⟩:=m;have h1:=F.most (g'.grt hi)
 have h2:(ss.filter fun u=>!(pt rs u).isSome&&(S.rows u).isSome).length<=(snL (pt rs) ss).length:=by
  unfold snL
  exact qdC (hn.filter _) fun x hx=>by
   obtain ⟨a,b⟩:=yp.mp hx;rw [Ye] at b;exact yp.mpr ⟨a,b.1⟩
 have c1:=qcN (f:=pt qs) (ss:=ss);have c2:=qcN (f:=pt rs) (ss:=ss);have c3:=g.cnt hn;have c4:=g'.cnt hn;omega
section
variable {ss:List Str} {TI:List (Nat×Nat)} {bs gs:List Nat}
theorem BarJ.bnd (B:BarJ ss TI bs gs):(gs.map (tn ss)).Nodup:=YF.mpr (B.nd.imp_of_mem fun {x y} hx hy hne e=>hne (zA B.ok.nd (B.lt x hx) (B.lt y hy) e))
theorem BarJ.inn (B:BarJ ss TI bs gs):∀ s∈gs.map (tn ss),s∈ss:=fun s h=>by obtain ⟨k,hk,rfl⟩:=yQ.mp h;exact qcO (B.lt k hk)
theorem BarJ.few (B:BarJ ss TI bs gs):gs.length<=14:=by
 have:=qdC B.bnd B.inn;rw [ya] at this;exact yi this B.ok.few
end
theorem qet (bs gs:List Nat) (n:Nat):(pcJ bs gs n).length<=n:=by
 unfold pcJ zP;rw [ya];exact yi (yT _ _) (by rw [xC];exact yh _)
noncomputable def WBar (cw:Addr) (H:Hp) (x a:Addr) (ss:List Str) (ns:List Nat) (TI:List (Nat×Nat)) (bs gs:List Nat):Prop:=Wt cw H x ss ns (TI.map (nmP ss))/\BarJ ss TI bs gs/\H a=some (.lst ((gs.map (tn ss)).map V.str))
theorem WBar.same {a:Addr} {TI:List (Nat×Nat)} {bs:List Nat} (h:WBar cw H x a ss ns TI bs gs) (s:L2.Same H H'):WBar cw H' x a ss ns TI bs gs:=⟨h.1.same s,h.2.1,s _ _ h.2.2⟩
inductive spPb (cw:Addr) (vs:List V) (H:Hp) (Q:VK) (E:XK):Prop|mk (x a:Addr) (ss:List Str) (ns:List Nat) (TI:List (Nat×Nat)) (bs gs:List Nat) (_:vs=[.ref x,.ref a]) (_:WBar cw H x a ss ns TI bs gs) (_:∀ (l:Addr) (ls:List Addr) (H':Hp),L2.Same H H'->H' l=some (.lst (ls.map V.ref))->All2 (fun c ks=>H' c=some (.lst (ks.map V.str))) ls ((pcJ bs gs ss.length).map fun c=>c.map (tn ss))->Q (.ref l) H')
inductive spOd (cw:Addr) (vs:List V) (H:Hp) (Q:VK) (E:XK):Prop|mk (x a:Addr) (ss:List Str) (ns:List Nat) (TI:List (Nat×Nat)) (bs gs:List Nat) (_:vs=[.ref x,.ref a]) (_:WBar cw H x a ss ns TI bs gs) (_:∀ (l:Addr) (us:List Addr) (H':Hp),L2.Same H H'->H' l=some (.lst (us.map V.ref))->us.length=odJ bs gs ss.length->Q (.ref l) H')
inductive spLk (cw:Addr) (vs:List V) (H:Hp) (Q:VK) (E:XK):Prop|mk (x a:Addr) (ss:List Str) (ns:List Nat) (TI:List (Nat×Nat)) (bs gs:List Nat) (_:vs=[.ref x,.ref a]) (_:WBar cw H x a ss ns TI bs gs) (_:∀ (H':Hp),L2.Same H H'->Q (.int ((odJ bs gs ss.length:Nat) - (gs.length:Nat))) H')
inductive spSi (cw:Addr) (vs:List V) (H:Hp) (Q:VK) (E:XK):Prop|mk (x l:Addr) (ss:List Str) (ns:List Nat) (us:List Addr) (tps qs:List (Str×Str)) (_:vs=[.ref x,.ref l]) (_:Wt cw H x ss ns tps) (_:PL H l us qs) (_:PGo ss tps qs) (_:∀ (r:Addr) (H':Hp),L2.Same H H'->H' r=some (.lst ((snL (pt qs) ss).map V.str))->Q (.ref r) H')
theorem ok_pb (F:Fun K "pieces_beside" "pieces_beside" jG f fd) (T:Txt K mg cc cw) (k9:DefOk P w K mg base CX0 4 "are_unlike_places" ["web","thing"] (spUl cw)) (uE:MethOk P w K mg base CX0 8 cw "without" ["self","places"] (spWo cw)) (uI:MethOk P w K mg base CX0 3 cw "pieces" ["self"] (spPcs cw)):FnOk P w K mg base CX0 9 f fd ["web","bar"] (spPb cw):=by
 refine F.ok ub fun _ _ _ _ H vs Q E hr h=>?_
 ·obtain ⟨x,a,ss,ns,TI,bs,gs,rfl,⟨W,B,ha⟩,q⟩:=h;refine ⟨_,(qc (qT (je (qZ (qk k9 (hmR hr) qw (qa (pv 0) (qa (pv 1) qd))))) (qe jo) qv)
 (qe (qm (qX uI (hmR hr) (qE uE (hmR hr) (pv 0) (qa (pv 1) qd)))))),?_⟩
  have hf:=B.few;ext;refine ⟨x,a,ss,ns,_,rfl,W.web,ha,B.bnd,by rw [ya];omega,B.inn,fun H1 s1=>?_⟩;obtain ⟨wx,dd,ol,nn,hb,_⟩:=id W.web;ext;refine yq ?_;ext;refine ⟨x,wx,_,rfl,s1 _ _ hb,jU (by decide +kernel),?_⟩;ext;refine ⟨x,a,ss,ns,_,_,rfl,W.same s1,tj_few W.wok W.adj B.tj,s1 _ _ ha,B.inn,by rw [ya];exact hf,fun y ms H2 s2 W2=>?_⟩;obtain ⟨wx',dd',ol',nn',hb',_⟩:=id W2.web;ext;refine ⟨y,wx',_,rfl,hb',jU (by decide +kernel),?_⟩;ext;refine ⟨y,_,ms,rfl,W2.web,fun l ls H3 s3 hl hl3 hA=>?_⟩;rw [pcs_J B W2.wok W2.adj] at hA;exact q l ls H3 ((s1.trans s2).trans s3) hl3 (hA.mono fun c ks z=>z.2.2)
theorem ok_od (F:Fun K "odd_pieces" "odd_pieces" jW f fd) (T:Txt K mg cc cw) (ul:DefOk P w K mg base CX0 9 "pieces_beside" ["web","bar"] (spPb cw)):FnOk P w K mg base CX0 10 f fd ["web","bar"] (spOd cw):=by
 refine F.ok uD fun _ _ _ _ H vs Q E hr h=>?_
 ·obtain ⟨x,a,ss,ns,TI,bs,gs,rfl,hW,q⟩:=h;have hu:=jP hr;refine ⟨_,(qe (qm (jg (sc:=qg jW) (XN:=["web","bar"]) ["piece"] 1 [] rfl rfl rfl (by decide +kernel) rfl (by decide +kernel)
  (qQ (K:=K) rfl (qk ul (hmR hr) qw (qa (pv 0) (qa (pv 1) qd)))) (fun _ _ _ _=>(qq (i:=0) (show (["piece"]:List Str).Nodup by decide +kernel) rfl (yE rfl))) qS
  (fun _ _ _ _=>(q9 (qo (zO (K:=K) rfl hu) (qx ze (qp (jI (K:=K) rfl) rfl T.b_len YA (qa (pv 0) qd)) qh) qh (qB _))))
  (fun _ _ _ _=>(pv 0))))),?_⟩
  ext;refine ⟨x,a,ss,ns,TI,bs,gs,rfl,hW,fun l ls H1 s1 hl1 hA=>?_⟩;have few:=yi (qet bs gs ss.length) hW.2.1.ok.few;have q:∀ (l:Addr) (us:List Addr) (H':Hp),L2.Same H H'->H' l=some (.lst (us.map V.ref))->us.length=((pcJ bs gs ss.length).filter fun c=>decide (c.length % 2=1)).length->Q (.ref l) H':=q;generalize pcJ bs gs ss.length=PS at hA few q;have lsl:ls.length=PS.length:=by rw [hA.len,ya]
  refine .inl ⟨⟨_,.of hl1⟩,qK (xs:=ls.map V.ref) (fun i ys J=>J=H1/\∃ us:List Addr,ys=us.map V.ref/\us.length=((PS.take i).filter fun c=>decide (c.length % 2=1)).length) ⟨rfl,[],rfl,rfl⟩ (fun i ys J _ hp'=>by rw [hp'.1];exact .of hl1) (fun i y ys J hy hp'=>?_) fun ys J hp'=>?_⟩
  ·obtain ⟨rfl,us,rfl,hU⟩:=hp';rw [yd] at hy;obtain ⟨c,hc,rfl⟩:=yn.mp hy;have hi:i < PS.length:=by rw [<- lsl];exact (yc.mp hc).1
   obtain ⟨ks,hks⟩:∃ ks,PS[i]?=some ks:=⟨_,yb hi⟩;have hcp:=hA.at_ i c _ hc (by rw [yd,hks];rfl)
   have hul:us.length<=14:=by
    rw [hU];exact yi (yT _ _) (by rw [yL];omega)
   ext;refine zd hcp ?_;rw [ya,ya];ext;refine vI (by decide) ?_;ext;refine qdc ?_;have eo:decide ((ks.length:Int) % 2=1)=decide (ks.length % 2=1):=Yp.mpr (by omega);rw [eo];ext
   have hst:((PS.take (i + 1)).filter fun c=>decide (c.length % 2=1)).length=us.length + if decide (ks.length % 2=1)=true then 1 else 0:=by
    rw [yH,hks,yW,yt,hU];show _ + ([ks].filter fun c=>decide (c.length % 2=1)).length=_;rw [yS,Yv];cases decide (ks.length % 2=1)<;>rfl
   rw [hst];refine qP (fun ho=>?_) (fun ho=>?_)
   ·ext;rw [yF ho];exact ⟨by rw [ya];exact qi (by omega),rfl,us++[c],by rw [yu];rfl,by rw [yt];rfl⟩
   ·rw [yC ho];exact ⟨rfl,us,rfl,rfl⟩
  ·obtain ⟨rfl,us,rfl,hU⟩:=hp';rw [show (ls.map V.ref).length=PS.length by rw [ya,lsl],yM] at hU
   have hul:us.length<=14:=by
    rw [hU];exact yi (yT _ _) few
   refine ⟨by rw [ya];exact yX (qi (by omega)),fun g hg=>?_⟩;exact q g us _ (qF s1 hg) qb hU
theorem ok_lk (F:Fun K "lack_of" "lack_of" qaQ f fd) (T:Txt K mg cc cw) (uK:DefOk P w K mg base CX0 10 "odd_pieces" ["web","bar"] (spOd cw)):FnOk P w K mg base CX0 11 f fd ["web","bar"] (spLk cw):=by
 refine F.ok uY fun _ _ _ _ H vs Q E hr h=>?_
 ·obtain ⟨x,a,ss,ns,TI,bs,gs,rfl,hW,q⟩:=h;refine ⟨_,(qe (qm (qx qbl (qp (jI (K:=K) rfl) rfl T.b_len YA (qa (qk uK (hmR hr) qw (qa (pv 0) (qa (pv 1) qd))) qd)) (qp (jI (K:=K) rfl) rfl T.b_len YA (qa (pv 1) qd))))),?_⟩;ext;refine ⟨x,a,ss,ns,TI,bs,gs,rfl,hW,fun l us H1 s1 hl1 hul=>?_⟩;ext;refine zd hl1 ?_;rw [ya,hul];ext;refine zd (s1 _ _ hW.2.2) ?_;rw [ya,ya];ext;exact q H1 s1
theorem ok_si (F:Fun K "singles" "singles" zY f fd) (T:Txt K mg cc cw) (kX:DefOk P w K mg base CX0 9 "partners_in" ["web","pairs"] (spPn cw)) (kY:MethOk P w K mg base CX0 1 cw "places" ["self"] (spPls cw)):FnOk P w K mg base CX0 10 f fd ["web","pairs"] (spSi cw):=by
 refine F.ok uk fun _ _ _ _ H vs Q E hr h=>?_
 ·obtain ⟨x,l,ss,ns,us,tps,qs,rfl,W,hP,hG,q⟩:=h;have hu:=jP hr;refine ⟨_,(qc (qj (i:=2) uk.nd rfl (Xw rfl) (qk kX (hmR hr) qw (qa (pv 0) (qa (pv 1) qd))))
 (qe (qm (jg (sc:=qg zY) (XN:=["web","pairs","partners"]) ["place","partners"] 1 [2] rfl rfl rfl (by decide +kernel) rfl (by decide +kernel)
  (qQ (K:=K) rfl (qX kY (hmR hr) (pv 0))) (fun _ _ _ _=>(qq (i:=0) (show (["place","partners"]:List Str).Nodup by decide +kernel) rfl (yE rfl))) qS
  (fun _ _ _ _=>(q9 (qo (zg (K:=K) rfl hu) (pv 0) (pv 1) (by with_unfolding_all rfl))))
  (fun _ _ _ _=>(pv 0)))))),?_⟩
  have few:=W.wok.few;ext;refine ⟨x,l,ss,ns,us,tps,qs,rfl,W.web,W.adj,hP,hG,fun d H1 s1 _ hd=>?_⟩;obtain ⟨wx,dd,ol,nn,hb,_⟩:=id (W.web.same s1);ext;refine ⟨x,wx,_,rfl,hb,jU (by decide +kernel),?_⟩;ext;refine ⟨x,ss,ns,rfl,W.web.same s1,fun m hm=>?_⟩;have s2:=qF (Sr H1) (o:=.lst (ss.map V.str)) hm;have em:upd H1 m (.lst (ss.map V.str)) m=some (.lst (ss.map V.str)):=qb;generalize upd H1 m (.lst (ss.map V.str))=H2 at s2 em;refine .inl ⟨⟨_,.of em⟩,qK (fun i ys J=>J=H2/\ys=(snL (pt qs) (ss.take i)).map V.str) ⟨rfl,rfl⟩ (fun i ys J _ hp=>by rw [hp.1];exact .of em) (fun i y ys J hy hp=>?_) fun ys J hp=>?_⟩
  ·obtain ⟨rfl,rfl⟩:=hp;obtain ⟨sy,gi,rfl⟩:=jO hy;have hil:=(yc.mp gi).1
   have hst:snL (pt qs) (ss.take (i + 1))=snL (pt qs) (ss.take i)++(if (!(pt qs sy).isSome)=true then [sy] else []):=by
    unfold snL;rw [yH,gi,yW];show _++[sy].filter _=_;rw [yS,Yv]
   have hle:(snL (pt qs) (ss.take i)).length<=i:=yi (yT _ _) (by rw [yL];omega);ext;refine .inr (.inl ⟨d,_,rfl,DGet.k (k:=Sum.inr sy) (s2 _ _ hd),?_⟩);rw [jD,yF rfl,xA];rw [hst];refine ⟨_,rfl,?_⟩
   cases (!(pt qs sy).isSome) with
   | true =>
    refine zN ?_;ext;exact ⟨by rw [ya];exact qi (by omega),rfl,by rw [yF rfl,yu];rfl⟩
   | false=>exact qP (fun h=>by cases h) fun _=>⟨rfl,by rw [yC (by decide),Yi]⟩
  ·obtain ⟨rfl,rfl⟩:=hp;rw [show (ss.map V.str).length=ss.length from ya _,yM];have hle:(snL (pt qs) ss).length<=ss.length:=yT _ _;refine ⟨by rw [ya];exact yX (qi (by omega)),fun g hg=>?_⟩;exact q g _ ((s1.trans s2).trans (qF (Sr J) hg)) qb
theorem KZ:FnScope ["web","free","words","place"] ["web"] (qg qcf):=fS
theorem uP:FnScope ["web","place","free"] ["web","place","free"] (qg zB):=fS
theorem Ug:FnScope ["web"] ["web"] (qg qcg):=fS
theorem Ur:FnScope ["web"] ["web"] (qg qdO):=fS
theorem KU:FnScope ["web","word","words"] ["web","word"] (qg jH):=fS
theorem uQ:FnScope ["web"] ["web"] (qg qan):=fS
noncomputable def reL (S:FS) (ss:List Str):List Str:=ss.filter fun s=>(S.rows s).isSome
noncomputable def wdF (ss:List Str) (ns:List Nat) (fr:List Str) (v:Str):Str:=if v∈fr then "loose" else if (inB ss 0 (ns.getD (ss.idxOf v) 0)).any (fun o=>decide (o∈fr))=true then "held" else "fast"
inductive spLo (cw:Addr) (vs:List V) (H:Hp) (Q:VK) (E:XK):Prop|mk (x:Addr) (ss:List Str) (ns:List Nat) (tps:List (Str×Str)) (_:vs=[.ref x]) (_:Wt cw H x ss ns tps) (_:∀ (l:Addr) (S:FS) (rs:List (Str×Str)) (H':Hp),L2.Same H H'->PGo ss tps rs->Fn (tA tps) (pt rs) S ss->H' l=some (.lst ((reL S ss).map V.str))->Q (.ref l) H')
inductive spWf (cw:Addr) (vs:List V) (H:Hp) (Q:VK) (E:XK):Prop|mk (x l:Addr) (v:Str) (ss:List Str) (ns:List Nat) (fr:List Str) (_:vs=[.ref x,.str v,.ref l]) (_:WebAt cw H x ss ns) (_:v∈ss) (_:H l=some (.lst (fr.map V.str))) (_:∀ (H':Hp),L2.Same H H'->Q (.str (wdF ss ns fr v)) H')
inductive spSo (cw:Addr) (vs:List V) (H:Hp) (Q:VK) (E:XK):Prop|mk (x:Addr) (ss:List Str) (ns:List Nat) (tps:List (Str×Str)) (_:vs=[.ref x]) (_:Wt cw H x ss ns tps) (_:∀ (d:Addr) (S:FS) (rs:List (Str×Str)) (kvs:List (Key×V)) (H':Hp),L2.Same H H'->PGo ss tps rs->Fn (tA tps) (pt rs) S ss->H' d=some (.dK kvs)->(∀ s∈ss,jS kvs (.inr s:Key)=some (.str (wdF ss ns (reL S ss) s)))->Q (.ref d) H')
inductive spPw (cw:Addr) (vs:List V) (H:Hp) (Q:VK) (E:XK):Prop|mk (x:Addr) (wd:Str) (ss:List Str) (ns:List Nat) (tps:List (Str×Str)) (_:vs=[.ref x,.str wd]) (_:Wt cw H x ss ns tps) (_:∀ (l:Addr) (S:FS) (rs:List (Str×Str)) (H':Hp),L2.Same H H'->PGo ss tps rs->Fn (tA tps) (pt rs) S ss->H' l=some (.lst ((ss.filter fun s=>decide (wdF ss ns (reL S ss) s=wd)).map V.str))->Q (.ref l) H')
inductive spHe (cw:Addr) (vs:List V) (H:Hp) (Q:VK) (E:XK):Prop|mk (x:Addr) (ss:List Str) (ns:List Nat) (tps:List (Str×Str)) (_:vs=[.ref x]) (_:Wt cw H x ss ns tps) (_:∀ (l:Addr) (S:FS) (rs:List (Str×Str)) (H':Hp),L2.Same H H'->PGo ss tps rs->Fn (tA tps) (pt rs) S ss->H' l=some (.lst ((ss.filter fun s=>decide (wdF ss ns (reL S ss) s="held")).map V.str))->Q (.ref l) H')
inductive spPa (cw:Addr) (vs:List V) (H:Hp) (Q:VK) (E:XK):Prop|mk (x:Addr) (ss:List Str) (ns:List Nat) (tps:List (Str×Str)) (_:vs=[.ref x]) (_:Wt cw H x ss ns tps) (_:∀ (t l a:Addr) (ls:List Addr) (S:FS) (rs rs':List (Str×Str)) (H':Hp),L2.Same H H'->H' t=some (.tup [.ref l,.ref a])->PL H' l ls rs->PGo ss tps rs->MxF ss tps rs->PGo ss tps rs'->Fn (tA tps) (pt rs') S ss->H' a=some (.lst ((ss.filter fun s=>decide (wdF ss ns (reL S ss) s="held")).map V.str))->Q (.ref t) H')
theorem ok_lo (F:Fun K "loose" "loose" qcg f fd) (T:Txt K mg cc cw) (Ky:DefOk P w K mg base CX0 14 "greatest" ["web"] (spGr cw)) (KY:MakeOk P w K mg base CX0 10 (cc 9) "Forest" ["self","web","pairs"] (spFi cc cw)) (uc:MethOk P w K mg base CX0 2 (cc 9) "reached" ["self"] (spFd2 cc cw)):FnOk P w K mg base CX0 15 f fd ["web"] (spLo cw):=by
 refine F.ok Ug fun _ _ _ _ H vs Q E hr h=>?_
 ·obtain ⟨x,ss,ns,tps,rfl,W,q⟩:=h;refine ⟨_,(qe (qm (qX uc (hmR hr) (qaE KY (hmR hr) (qa (pv 0) (qa (qk Ky (hmR hr) qw (qa (pv 0) qd)) qd)))))),?_⟩;ext;refine ⟨x,ss,ns,tps,rfl,W,fun l ls rs H1 s1 hP hG hM=>?_⟩;have W1:=W.same s1;ext;refine fun y dx hy hdx hne=>qfc W1 hP hG hy hdx hne fun H0 H4 a S dn wt lo ea hD s4=>?_;subst ea;refine ⟨rfl,?_⟩;obtain ⟨fx,ff,fx1,_,_,_,fx2⟩:=id hD.fo.obj;have s04:=s1.trans s4;ext;refine ⟨a.x,fx,ff,rfl,fx1,fx2 _ (by decide +kernel),?_⟩;ext;refine ⟨H0,a,ss,ns,rs,S,dn,wt,lo,_,rfl,hD,W.wok.few,fun hl=>?_,fun hl l' H5 s5 _ hl5=>?_⟩
  ·rcases hD.en with ⟨e,_⟩ | ⟨t,r,e,_,_,hA,hle⟩
   ·exact absurd e hl
   ·obtain ⟨g1,c1⟩:=qem W.wok W.adj W.ok hG hA (by omega);have:=qfe W.ir W.wok.nd hG hM g1;omega
  ·subst hl;exact q l' S rs H5 (s04.trans s5) hG (qfI hD (W1.wb hG)) hl5
theorem ok_wf (F:Fun K "word_for" "word_for" zB f fd) (T:Txt K mg cc cw) (Kp:MethOk P w K mg base CX0 6 cw "beside" ["self","place"] (spBs cw)):FnOk P w K mg base CX0 7 f fd ["web","place","free"] (spWf cw):=by
 refine F.ok uP fun _ _ _ _ H vs Q E hr h=>?_
 ·obtain ⟨x,l,v,ss,ns,fr,rfl,W,hv,hl,q⟩:=h;have hu:=jP hr;refine ⟨_,(qc (qT (qo (zS (K:=K) rfl hu) (pv 1) (pv 2) (by with_unfolding_all rfl)) (qe (qm qa2)) qv)
 (qe (qm (qdl (qZ (qp (k_any (K:=K) rfl rfl) rfl T.b_any boot_any (qa (jg (sc:=qg zB) (XN:=["web","place","free"]) ["other","free"] 1 [2] rfl rfl rfl (by decide +kernel) rfl (by decide +kernel)
  (qQ (K:=K) rfl (qE Kp (hmR hr) (pv 0) (qa (pv 1) qd))) (fun _ _ _ _=>(qq (i:=0) (show (["other","free"]:List Str).Nodup by decide +kernel) rfl (yE rfl))) qS
  (fun _ _ _ _=>j0)
  (fun _ _ _ _=>(jM (zS (K:=K) rfl hu) (pv 0) (pv 1) (by with_unfolding_all rfl)))) qd))) qa2 qa2)))),?_⟩
  obtain ⟨wx,dd,ol,nn,hb,_,_,_,hw⟩:=id W;have few:=hw.few;ext;refine qcb hl ?_;ext;unfold wdF at q;refine qP (fun h1=>?_) fun h1=>?_
  ·rw [yF (yk h1)] at q;ext;exact q H (Sr H)
  ·rw [yC (fun z=>h1 (yG z))] at q;ext;refine ⟨x,wx,_,rfl,hb,jU (by decide +kernel),?_⟩;ext;obtain ⟨j,gj⟩:=yf hv;rw [qcJ hw.nd gj] at q;refine ⟨x,ss,ns,v,j,rfl,W,gj,fun H1 s1 m hm=>?_⟩;generalize hIB:inB ss 0 (ns.getD j 0)=IB at q ⊢;have hIl:IB.length<=14:=by rw [<- hIB];exact yi (qaZ _ _ _) few
   have s2:=qF s1 (o:=.lst (IB.map V.str)) hm;have em:upd H1 m (.lst (IB.map V.str)) m=some (.lst (IB.map V.str)):=qb;generalize upd H1 m (.lst (IB.map V.str))=H2 at s2 em;refine .inl ⟨⟨_,.of em⟩,qK (fun i ys J=>J=H2/\ys=((IB.take i).map fun o=>decide (o∈fr)).map V.bl) ⟨rfl,rfl⟩ (fun i ys J _ hp=>by rw [hp.1];exact .of em) (fun i y ys J hy hp=>?_) fun ys J hp=>?_⟩
   ·obtain ⟨rfl,rfl⟩:=hp;obtain ⟨sy,gi,rfl⟩:=jO hy;have hil:=(yc.mp gi).1;ext;refine zN ?_;ext;refine qcb (s2 _ _ hl) ?_;exact ⟨by rw [ya,ya,yL];exact qi (by omega),rfl,by rw [yH,gi,yu,yu];rfl⟩
   ·obtain ⟨rfl,rfl⟩:=hp;rw [show (IB.map V.str).length=IB.length from ya _,yM];refine ⟨by rw [ya,ya];exact yX (qi (by omega)),fun g hg=>?_⟩;ext;refine ⟨g,_,rfl,.of qb,?_⟩;rw [kU];have eq:(IB.any (id ∘ fun o=>decide (o∈fr)))=IB.any fun o=>decide (o∈fr):=rfl;rw [eq];have s3:=qF s2 (o:=.lst ((IB.map fun o=>decide (o∈fr)).map V.bl)) hg;ext;refine qP (fun h2=>?_) fun h2=>?_
    ·rw [yF h2] at q;exact q _ s3
    ·rw [yC h2] at q;exact q _ s3
theorem ok_so (F:Fun K "sorts" "sorts" qcf f fd) (T:Txt K mg cc cw) (Us:DefOk P w K mg base CX0 15 "loose" ["web"] (spLo cw)) (uZ:DefOk P w K mg base CX0 7 "word_for" ["web","place","free"] (spWf cw)) (kY:MethOk P w K mg base CX0 1 cw "places" ["self"] (spPls cw)):FnOk P w K mg base CX0 16 f fd ["web"] (spSo cw):=by
 refine F.ok KZ fun _ _ _ s H vs Q E hr h=>?_
 ·obtain ⟨x,ss,ns,tps,rfl,W,q⟩:=h;have hu:=jP hr;refine ⟨_,(qc (qj (i:=1) KZ.nd rfl (yE rfl) (qk Us (hmR hr) qw (qa (pv 0) qd)))
 (qc (qj (i:=2) KZ.nd rfl (yE rfl) jZ)
 (qc (ji yV rfl (qQ (K:=K) rfl (qX kY (hmR hr) (pv 0))) (qq (i:=3) KZ.nd rfl (yE rfl))
 (qe (jK (qk uZ (hmR hr) qw (qa (pv 0) (qa (pv 3) (qa (pv 1) qd)))) (jJ (pv 2) (pv 3) (jL hu)))))
 (qe (qm (pv 2)))))),?_⟩
  have few:=W.wok.few;ext;refine ⟨x,ss,ns,tps,rfl,W,fun l S rs H1 s1 hG hF hl=>?_⟩;have q:=fun d kvs H' (sm:L2.Same H H')=>q d S rs kvs H' sm hG hF;generalize reL S ss=fr at hl q;ext;intro d hd;have s2:=qF s1 (o:=.dK []) hd;have ed:upd H1 d (.dK []) d=some (.dK []):=qb;have hd0:H d=none:=s1.free hd;have l2:=(qF (Sr H1) (o:=.dK []) hd) _ _ hl;generalize upd H1 d (.dK [])=H2 at s2 ed l2;obtain ⟨wx,dd,ol,nn,hb,_⟩:=id W.web;ext;refine ⟨x,wx,_,rfl,s2 _ _ hb,jU (by decide +kernel),?_⟩;ext;refine ⟨x,ss,ns,rfl,W.web.same s2,fun m hm=>?_⟩;have s3:=qF s2 (o:=.lst (ss.map V.str)) hm;have em:upd H2 m (.lst (ss.map V.str)) m=some (.lst (ss.map V.str)):=qb;have ed3:=(qF (Sr H2) (o:=.lst (ss.map V.str)) hm) _ _ ed;have l3:=(qF (Sr H2) (o:=.lst (ss.map V.str)) hm) _ _ l2;generalize upd H2 m (.lst (ss.map V.str))=H3 at s3 em ed3 l3;have mne:m≠d:=fun z=>by rw [z,ed3] at em;cases em
  have lne:l≠d:=fun z=>by rw [z,ed3] at l3;cases l3
  refine .inl ⟨⟨_,.of em⟩,qV (xs:=ss.map V.str) (fun i σ J=>L2.Same H J/\J m=some (.lst (ss.map V.str))/\J l=some (.lst (fr.map V.str))/\∃ (kvs:List (Key×V)) (y3:Option V),σ=[some (.ref x),some (.ref l),some (.ref d),y3]/\J d=some (.dK kvs)/\kvs.length<=i/\∀ s∈ss.take i,jS kvs (.inr s:Key)=some (.str (wdF ss ns fr s))) ⟨s3,em,l3,[],_,rfl,ed3,yh _,fun s h=>by simp at h⟩ (fun i σ J _ hp=>.of hp.2.1) (fun i y σ J hy hp=>?_) fun σ J hp=>?_⟩
  ·obtain ⟨sJ,mJ,lJ,kvs,y3,rfl,dJ,hkl,hk⟩:=hp;obtain ⟨sy,gi,rfl⟩:=jO hy;have hil:=(yc.mp gi).1;ext;refine ⟨x,l,sy,ss,ns,fr,rfl,W.web.same sJ,ye gi,lJ,fun J2 s4=>?_⟩;ext;refine .inr ⟨d,_,rfl,DPut.k (k:=Sum.inr sy) (s4 _ _ dJ) (qi (by omega)),?_⟩;refine ⟨qaH (sJ.trans s4) hd0,by rw [qf mne];exact s4 _ _ mJ,by rw [qf lne];exact s4 _ _ lJ,_,_,rfl,qb,?_,fun s hs=>?_⟩
   ·have:=jm kvs (Sum.inr sy:Key) (V.str (wdF ss ns fr sy));omega
   ·rw [qad];by_cases e:s=sy
    ·subst e;rw [yF rfl]
    ·rw [yC (fun z=>e (xn z))];rw [yH,gi] at hs;rcases yz.mp hs with z | z
     ·exact hk s z
     ·exact absurd (yy.mp z) e
  ·obtain ⟨sJ,mJ,lJ,kvs,y3,rfl,dJ,hkl,hk⟩:=hp;rw [show (ss.map V.str).length=ss.length from ya _,yM] at hk;ext;exact q d kvs J sJ dJ hk
theorem ok_pw (F:Fun K "places_with" "places_with" jH f fd) (T:Txt K mg cc cw) (Ut:DefOk P w K mg base CX0 16 "sorts" ["web"] (spSo cw)) (kY:MethOk P w K mg base CX0 1 cw "places" ["self"] (spPls cw)):FnOk P w K mg base CX0 17 f fd ["web","word"] (spPw cw):=by
 refine F.ok KU fun _ _ _ s H vs Q E hr h=>?_
 ·obtain ⟨x,wd,ss,ns,tps,rfl,W,q⟩:=h;have hu:=jP hr;refine ⟨_,(qc (qj (i:=2) KU.nd rfl (Xw rfl) (qk Ut (hmR hr) qw (qa (pv 0) qd)))
 (qe (qm (jg (sc:=qg jH) (XN:=["web","word","words"]) ["place","word","words"] 1 [1,2] rfl rfl rfl (by decide +kernel) rfl (by decide +kernel)
  (qQ (K:=K) rfl (qX kY (hmR hr) (pv 0))) (fun _ _ _ _=>(qq (i:=0) (show (["place","word","words"]:List Str).Nodup by decide +kernel) rfl (yE rfl))) qS
  (fun _ _ _ _=>(q9 (qo (zO (K:=K) rfl hu) (qr (qt (K:=K) rfl hu) (pv 2) (pv 0) (fun _ _=>rfl)) (pv 1) (qB _))))
  (fun _ _ _ _=>(pv 0)))))),?_⟩
  have few:=W.wok.few;ext;refine ⟨x,ss,ns,tps,rfl,W,fun d S rs kvs H1 s1 hG hF hd hk=>?_⟩;have q:=fun l H' (sm:L2.Same H H')=>q l S rs H' sm hG hF;generalize reL S ss=fr at hk q;obtain ⟨wx,dd,ol,nn,hb,_⟩:=id (W.web.same s1);ext;refine ⟨x,wx,_,rfl,hb,jU (by decide +kernel),?_⟩;ext;refine ⟨x,ss,ns,rfl,W.web.same s1,fun m hm=>?_⟩;have s2:=qF (Sr H1) (o:=.lst (ss.map V.str)) hm;have em:upd H1 m (.lst (ss.map V.str)) m=some (.lst (ss.map V.str)):=qb;generalize upd H1 m (.lst (ss.map V.str))=H2 at s2 em;refine .inl ⟨⟨_,.of em⟩,qK (fun i ys J=>J=H2/\ys=((ss.take i).filter fun s=>decide (wdF ss ns fr s=wd)).map V.str) ⟨rfl,rfl⟩ (fun i ys J _ hp=>by rw [hp.1];exact .of em) (fun i y ys J hy hp=>?_) fun ys J hp=>?_⟩
  ·obtain ⟨rfl,rfl⟩:=hp;obtain ⟨sy,gi,rfl⟩:=jO hy;have hil:=(yc.mp gi).1;have hle:((ss.take i).filter fun s=>decide (wdF ss ns fr s=wd)).length<=i:=yi (yT _ _) (by rw [yL];omega);ext;refine qeg (s2 _ _ hd) (hk sy (ye gi)) ?_;ext;refine .inl (.inl (.inl ⟨rfl,rfl,?_⟩))
   have ee:(if (false:Bool)=true then !eqV (.str (wdF ss ns fr sy)) (.str wd) else eqV (.str (wdF ss ns fr sy)) (.str wd))=decide (wdF ss ns fr sy=wd):=by
    rw [yC (by decide)];show (wdF ss ns fr sy==wd)=_;rw [Yq];simp
   rw [ee];rw [yH,gi,yW];refine ⟨_,rfl,?_⟩;show if decide (wdF ss ns fr sy=wd)=true then _ else _;refine qP (fun h1=>?_) fun h1=>?_
   ·ext;refine ⟨by rw [ya];exact qi (by omega),rfl,?_⟩;show _=List.map V.str (_++[sy].filter _);rw [yS,yF h1,yu];rfl
   ·refine ⟨rfl,?_⟩;show _=List.map V.str (_++[sy].filter _);rw [yS,yC h1,Yv,Yi]
  ·obtain ⟨rfl,rfl⟩:=hp;rw [show (ss.map V.str).length=ss.length from ya _,yM];have hle:(ss.filter fun s=>decide (wdF ss ns fr s=wd)).length<=ss.length:=yT _ _;refine ⟨by rw [ya];exact yX (qi (by omega)),fun g hg=>?_⟩;exact q g _ ((s1.trans s2).trans (qF (Sr J) hg)) qb
theorem ok_he (F:Fun K "held" "held" qdO f fd) (T:Txt K mg cc cw) (uF:DefOk P w K mg base CX0 17 "places_with" ["web","word"] (spPw cw)):FnOk P w K mg base CX0 18 f fd ["web"] (spHe cw):=by
 refine F.ok Ur fun _ _ _ _ H vs Q E hr h=>?_
 ·obtain ⟨x,ss,ns,tps,rfl,W,q⟩:=h;refine ⟨_,(qe (qm (qk uF (hmR hr) qw (qa (pv 0) (qa qa2 qd))))),?_⟩;ext;exact ⟨x,_,ss,ns,tps,rfl,W,fun l S rs H' s1 hG hF hl=>q l S rs H' s1 hG hF hl⟩
theorem ok_pa6 (F:Fun K "paper_of" "paper_of" qan f fd) (T:Txt K mg cc cw) (Ky:DefOk P w K mg base CX0 14 "greatest" ["web"] (spGr cw)) (Uv:DefOk P w K mg base CX0 18 "held" ["web"] (spHe cw)):FnOk P w K mg base CX0 19 f fd ["web"] (spPa cw):=by
 refine F.ok uQ fun _ _ _ _ H vs Q E hr h=>?_
 ·obtain ⟨x,ss,ns,tps,rfl,W,q⟩:=h;refine ⟨_,(qe (qm (jA (qa (qk Ky (hmR hr) qw (qa (pv 0) qd)) (qa (qk Uv (hmR hr) qw (qa (pv 0) qd)) qd))))),?_⟩;ext;refine ⟨x,ss,ns,tps,rfl,W,fun l ls rs H1 s1 hP hG hM=>?_⟩;ext;refine ⟨x,ss,ns,tps,rfl,W.same s1,fun a S rs' H2 s2 hG' hF ha=>?_⟩;ext;refine ⟨by show 2<=sizeLine;decide,fun t ht=>?_⟩;have s3:=qF (Sr H2) (o:=.tup [.ref l,.ref a]) ht;exact q t l a ls S rs rs' _ ((s1.trans s2).trans s3) qb ((hP.same s2).same s3) hG hM hG' hF (s3 _ _ ha)
theorem Uh:FnScope ["web","thing"] ["web","thing"] (qg qch):=fS
theorem u9:FnScope ["web","thing"] ["web","thing"] (qg qbi):=fS
noncomputable def qdh (bs gs:List Nat) (n k:Nat):Bool:=decide ((n:Int) - 2 * (k:Int)=(odJ bs gs n:Int) - (gs.length:Int))
inductive spSh (cw:Addr) (vs:List V) (H:Hp) (Q:VK) (E:XK):Prop|mk (x t l a:Addr) (ss:List Str) (ns:List Nat) (TI:List (Nat×Nat)) (bs gs:List Nat) (us:List Addr) (qs:List (Str×Str)) (_:vs=[.ref x,.ref t]) (_:WBar cw H x a ss ns TI bs gs) (_:H t=some (.tup [.ref l,.ref a])) (_:PL H l us qs) (_:PGo ss (TI.map (nmP ss)) qs) (_:∀ (H':Hp),L2.Same H H'->Q (.bl (qdh bs gs ss.length qs.length)) H')
inductive spIb (cw:Addr) (vs:List V) (H:Hp) (Q:VK) (E:XK):Prop|mk (x a:Addr) (ss:List Str) (ns:List Nat) (TI:List (Nat×Nat)) (bs gs:List Nat) (_:vs=[.ref x,.ref a]) (_:WBar cw H x a ss ns TI bs gs) (_:∀ (rs:List (Str×Str)) (H':Hp),L2.Same H H'->PGo ss (TI.map (nmP ss)) rs->MxF ss (TI.map (nmP ss)) rs->Q (.bl (qdh bs gs ss.length rs.length)) H')
theorem ok_shw (F:Fun K "shows" "shows" qch f fd) (T:Txt K mg cc cw) (KR:DefOk P w K mg base CX0 8 "are_pairs" ["web","thing"] (spAp cw)) (k9:DefOk P w K mg base CX0 4 "are_unlike_places" ["web","thing"] (spUl cw)) (Ua:DefOk P w K mg base CX0 10 "singles" ["web","pairs"] (spSi cw)) (K6:DefOk P w K mg base CX0 11 "lack_of" ["web","bar"] (spLk cw)):FnOk P w K mg base CX0 12 f fd ["web","thing"] (spSh cw):=by
 refine F.ok Uh fun _ _ _ _ H vs Q E hr h=>?_
 ·obtain ⟨x,t,l,a,ss,ns,TI,bs,gs,us,qs,rfl,hB,et,hP,hG,q⟩:=h;have hu:=jP hr;have W:=hB.1;have B:=hB.2.1;have hf:=B.few;refine ⟨_,(qc (qT (PW.pt (qbI (je (qZ (qp (qbT (K:=K) rfl) rfl T.b_isinstance YT (qa (pv 1) (qa (jX (v:=.ty "tuple") rfl T.b_tuple boot_tuple rfl) qd))))) (qax (qo (qa4 (K:=K) rfl hu) (qp (jI (K:=K) rfl) rfl T.b_len YA (qa (pv 1) qd)) qh (qB _))))) (qe (qm za)) qv)
 (qc (qT (PW.pt (qbI (je (qZ (qk KR (hmR hr) qw (qa (pv 0) (qa (qr (qt (K:=K) rfl hu) (pv 1) qh (fun _ _=>rfl)) qd))))) (qax (je (qZ (qk k9 (hmR hr) qw (qa (pv 0) (qa (qr (qt (K:=K) rfl hu) (pv 1) qh (fun _ _=>rfl)) qd)))))))) (qe (qm za)) qv)
 (qe (qm (jM (zO (K:=K) rfl hu) (qp (jI (K:=K) rfl) rfl T.b_len YA (qa (qk Ua (hmR hr) qw (qa (pv 0) (qa (qr (qt (K:=K) rfl hu) (pv 1) qh (fun _ _=>rfl)) qd))) qd)) (qk K6 (hmR hr) qw (qa (pv 0) (qa (qr (qt (K:=K) rfl hu) (pv 1) qh (fun _ _=>rfl)) qd))) (qB _)))))),?_⟩
  ext;refine qdS (.inl (.tup et)) rfl (qaX K "tuple" (by simp) "tuple" (by simp)) ?_;ext;refine yq ?_;ext;refine qfx et ?_;ext;refine .inl ⟨rfl,rfl,?_⟩;ext;refine yq ?_;ext;refine .inl (qat et rfl ?_);ext;refine ⟨x,l,ss,ns,us,_,qs,rfl,W.web,W.adj,hP,hG,fun H1 s1=>?_⟩;ext;refine yq ?_;ext;refine .inl (qat (s1 _ _ et) rfl ?_);ext;refine ⟨x,a,ss,ns,_,rfl,W.web.same s1,s1 _ _ hB.2.2,B.bnd,by rw [ya];omega,B.inn,fun H2 s2=>?_⟩;have s02:=s1.trans s2;ext;refine yq ?_;ext;refine .inl (qat (s02 _ _ et) rfl ?_);ext;refine ⟨x,l,ss,ns,us,_,qs,rfl,W.same s02,hP.same s02,hG,fun r H3 s3 hr3=>?_⟩;have s03:=s02.trans s3;ext;refine zd hr3 ?_;rw [ya];ext;refine .inl (qat (s03 _ _ et) rfl ?_);ext;refine ⟨x,a,ss,ns,TI,bs,gs,rfl,hB.same s03,fun H4 s4=>?_⟩;have c1:=qcN (f:=pt qs) (ss:=ss);have c2:=hG.cnt W.wok.nd;refine qdc ?_
  have e:decide (((snL (pt qs) ss).length:Int)=(odJ bs gs ss.length:Int) - (gs.length:Int))=qdh bs gs ss.length qs.length:=by
   unfold qdh;exact Yp.mpr (by omega)
  rw [e];exact q H4 (s03.trans s4)
theorem ok_ib (F:Fun K "is_bar" "is_bar" qbi f fd) (T:Txt K mg cc cw) (Ky:DefOk P w K mg base CX0 14 "greatest" ["web"] (spGr cw)) (uu:DefOk P w K mg base CX0 12 "shows" ["web","thing"] (spSh cw)):FnOk P w K mg base CX0 15 f fd ["web","thing"] (spIb cw):=by
 refine F.ok u9 fun _ _ _ _ H vs Q E hr h=>?_
 ·obtain ⟨x,a,ss,ns,TI,bs,gs,rfl,hB,q⟩:=h;refine ⟨_,(qe (qm (qk uu (hmR hr) qw (qa (pv 0) (qa (jA (qa (qk Ky (hmR hr) qw (qa (pv 0) qd)) (qa (pv 1) qd))) qd))))),?_⟩;ext;refine ⟨x,ss,ns,_,rfl,hB.1,fun l ls rs H1 s1 hP hG hM=>?_⟩;ext;refine ⟨by show 2<=sizeLine;decide,fun t ht=>?_⟩;have s2:=qF (Sr H1) (o:=.tup [.ref l,.ref a]) ht;ext;exact ⟨x,t,l,a,ss,ns,TI,bs,gs,ls,rs,rfl,(hB.same s1).same s2,qb,hP.same s2,hG,fun H3 s3=>q rs H3 ((s1.trans s2).trans s3) hG hM⟩
theorem KJ:FnScope ["_law_purse_here","_law_things","_law_left","_law_found"] ["_law_purse_here","_law_things"] (qg zt):=fS
theorem Km:FnScope ["_law_purse_here","_law_ties_here","_law_most","_law_seen","_law_found","_law_one_here","_law_other"] ["_law_purse_here","_law_ties_here"] (qg zK):=fS
theorem Pu.same (h:Pu H p) (s:L2.Same H H'):Pu H' p:=by
 obtain ⟨a,b,c,e,r⟩:=h;exact ⟨a,b,c,s _ _ e,r⟩
noncomputable def IPZ (H:Hp) (l:Addr) (zs:List (Addr×(Nat×Nat))):Prop:=H l=some (.lst (zs.map fun z=>V.ref z.1))/\∀ z∈zs,H z.1=some (iT z.2)
theorem IPZ.same (h:IPZ H l zs) (s:L2.Same H H'):IPZ H' l zs:=⟨s _ _ h.1,fun z hz=>s _ _ (h.2 z hz)⟩
theorem IPL.zip {TI:List (Nat×Nat)} (h:IPL H l ts TI):∃ zs,zs.map Prod.snd=TI/\IPZ H l zs:=by
 have hl:=h.2.len;refine ⟨ts.zip TI,List.map_snd_zip (by omega),?_,fun z hz=>?_⟩
 ·have e:(ts.zip TI).map (fun z=>V.ref z.1)=ts.map V.ref:=by
   have:((ts.zip TI).map Prod.fst).map V.ref=ts.map V.ref:=by rw [List.map_fst_zip (by omega)]
   rw [Xm] at this;exact this
  rw [e];exact h.1
 ·obtain ⟨k,hk,e⟩:=Xq hz;rw [List.getElem_zip] at e;rw [List.length_zip] at hk;subst e;exact h.2.at_ k _ _ (yb (by omega)) (yb (by omega))
inductive spShJ (vs:List V) (H:Hp) (Q:VK) (E:XK):Prop|mk (p l:Addr) (zs:List (Addr×(Nat×Nat))) (_:vs=[.ref p,.ref l]) (_:Pu H p) (_:IPZ H l zs) (_:l≠p) (_:zs.length<=30) (_:∀ (r:Addr) (us:List (Addr×(Nat×Nat))) (H':Hp),But p H H'->Pu H' p->H r=none->r≠p->IPZ H' r us->us.Perm zs->Q (.ref r) H')
noncomputable def qaR (PI:List (Nat×Nat)):List Nat:=PI.flatMap fun q=>[q.1,q.2]
theorem qbF (PI:List (Nat×Nat)) (q:Nat×Nat):qaR (PI++[q])=qaR PI++[q.1,q.2]:=by
 unfold qaR;rw [xK];rfl
theorem nums_len (PI:List (Nat×Nat)):(qaR PI).length=2 * PI.length:=by
 induction PI with
 | nil=>rfl
 | cons q r ih =>
  show (q.1::q.2::qaR r).length=_;rw [yA,yA,ih,yA];omega
inductive spFtJ (vs:List V) (H:Hp) (Q:VK) (E:XK):Prop|mk (p l:Addr) (ts:List Addr) (m:Nat) (TI:List (Nat×Nat)) (_:vs=[.ref p,.ref l]) (_:Pu H p) (_:IPL H l ts TI) (_:l≠p) (_:TJ m TI) (_:∀ (r:Addr) (us:List (Addr×(Nat×Nat))) (H':Hp),But p H H'->Pu H' p->r≠p->IPZ H' r us->(∀ z∈us,z.2∈TI)->(qaR (us.map Prod.snd)).Nodup->us.length<=8->Q (.ref r) H')
theorem ok_shJ (F:Fun K "_law_shuffled" "_law_shuffled" zt f fd) (T:Txt K mg cc cw) (kW:DefOk P w K mg base CX0 1 "_law_take" ["_law_purse_here","_law_many_here"] spTkP):FnOk P w K mg base CX0 2 f fd ["_law_purse_here","_law_things"] spShJ:=by
 refine F.ok KJ fun _ _ _ _ H vs Q E hr h=>?_
 ·obtain ⟨p,l,zs,rfl,hp,hZ,hlp,h30,q⟩:=h;have hu:=jP hr;refine ⟨_,(qc (qj (i:=2) KJ.nd rfl (yE rfl) (zQ (qbx (K:=K) rfl rfl) rfl T.b_list Xa (qa (pv 1) qd)))
 (qc (qj (i:=3) KJ.nd rfl (yE rfl) (qM qd))
 (qc (zZ yV (qo (qa4 (K:=K) rfl hu) (pv 2) (qM qd) (qB _))
 (qe (qL (qaW (K:=K) rfl yD y0 Yb qI (pv 3) (qa (qaW (K:=K) rfl yD XH XI qcB (pv 2) (qa (qk kW (hmR hr) qw (qa (pv 0) (qa (qp (jI (K:=K) rfl) rfl T.b_len YA (qa (pv 2) qd)) qd))) qd)) qd)))))
 (qe (qm (pv 3)))))),?_⟩
  ext;refine .inl ⟨l,_,rfl,.inl (.of hZ.1),fun l1 h1=>?_⟩;have s1:=qF (Sr H) (o:=.lst (zs.map fun z=>V.ref z.1)) h1;have e1:upd H l1 (.lst (zs.map fun z=>V.ref z.1)) l1=some (.lst (zs.map fun z=>V.ref z.1)):=qb;generalize upd H l1 (.lst (zs.map fun z=>V.ref z.1))=H1 at s1 e1;ext;refine ⟨by decide,fun l2 h2=>?_⟩;have s2:=qF (Sr H1) (o:=.lst []) h2;have e2:upd H1 l2 (.lst []) l2=some (.lst []):=qb;generalize upd H1 l2 (.lst [])=H2 at s2 e2;have s02:=s1.trans s2;have h20:=s1.free h2;have n12:l1≠l2:=qD e1 h2;have n1:l1≠p:=hp.apart h1;have n2:l2≠p:=hp.apart h20;ext;refine ⟨fun m σ J=>∃ (us vs:List (Addr×(Nat×Nat))),m=us.length/\σ=[some (.ref p),some (.ref l),some (.ref l1),some (.ref l2)]/\But p H J/\Pu J p/\IPZ J l1 us/\IPZ J l2 vs/\(vs++us).Perm zs,⟨_,zs,[],rfl,rfl,fun c o _ e=>s02 c o e,hp.same s02,⟨s2 _ _ e1,fun z hz=>s02 _ _ (hZ.2 z hz)⟩,⟨e2,fun z hz=>by cases hz⟩,kg _⟩,fun m σ J hW=>?_⟩;obtain ⟨us,vs,rfl,rfl,bJ,pJ,uJ,vJ,hperm⟩:=hW;have hlen:=hperm.length_eq;rw [yt] at hlen;ext;refine ⟨by decide,fun z hz=>?_⟩;have sz:=qF (Sr J) (o:=.lst []) hz;have ez:upd J z (.lst []) z=some (.lst []):=qb;generalize upd J z (.lst [])=J1 at sz ez;have b1:But p H J1:=fun c o n e=>sz c o (bJ c o n e);have p1:=pJ.same sz;have u1:=uJ.same sz;have v1:=vJ.same sz;refine ne_nil u1.1 ez ?_;ext
  cases us with
  | nil =>
   refine yq ?_;ext;rw [Yi] at hperm;exact q l2 vs J1 b1 p1 h20 n2 v1 hperm
  | cons u0 ur =>
   refine qP (fun _=>?_) (fun h=>absurd rfl h);refine ⟨fun σ' J=>∃ (us vs:List (Addr×(Nat×Nat))),us.length=ur.length/\σ'=[some (.ref p),some (.ref l),some (.ref l1),some (.ref l2)]/\But p H J/\Pu J p/\IPZ J l1 us/\IPZ J l2 vs/\(vs++us).Perm zs,fun σ' H' ⟨us',vs',e,qcT⟩=>⟨_,by rw [yA,<- e];exact Xk _,us',vs',rfl,qcT⟩,?_⟩;rw [yA] at hlen;ext;refine ⟨.inl ⟨rfl,_,SqL.of v1.1⟩,?_⟩;ext;refine ⟨.inl ⟨rfl,_,SqL.of u1.1⟩,?_⟩;ext;refine zd u1.1 ?_;ext;rw [ya];refine ⟨p,(u0::ur).length,rfl,p1,by (rw [yA];omega),by (rw [yA];omega),fun k J2 hk b2 p2=>?_⟩;have lst:∀ {G:Hp} {c r:Addr} {xs:List V} {q:Nat×Nat},G c=some (iT q)->G r=some (.lst xs)->c≠r:=fun ec er z=>by rw [z,er] at ec;cases ec
   have puT:∀ {c:Addr} {q:Nat×Nat},J1 c=some (iT q)->c≠p:=fun ec z=>by obtain ⟨x,y,w,e,_⟩:=p1;rw [z,e] at ec;cases ec
   have u2:IPZ J2 l1 (u0::ur):=⟨b2 _ _ n1 u1.1,fun z hz=>b2 _ _ (puT (u1.2 z hz)) (u1.2 z hz)⟩;have v2:IPZ J2 l2 vs:=⟨b2 _ _ n2 v1.1,fun z hz=>b2 _ _ (puT (v1.2 z hz)) (v1.2 z hz)⟩;have b02:=b1.trans7 b2;have gk:((u0::ur).map fun z=>V.ref z.1)[k]?=some (.ref (u0::ur)[k].1):=by rw [yd,yb hk];rfl
   have hk9:(k:Int) < 2 ^ 62:=by rw [yA] at hk;omega
   refine ⟨l1,_,_,k,_,rfl,rfl,u2.1,by omega,by omega,(qcZ (qbB (by rw [ya];exact hk))).1,gk,?_⟩;have mk:(u0::ur)[k]∈u0::ur:=Y0 hk;have ee:((u0::ur).map fun z=>V.ref z.1).eraseIdx k=((u0::ur).eraseIdx k).map fun z=>V.ref z.1:=qcL _ _ _;rw [ee];have l1ne:∀ {c:Addr} {q:Nat×Nat},J2 c=some (iT q)->c≠l1:=fun ec=>lst ec u2.1;have l2ne:∀ {c:Addr} {q:Nat×Nat},J2 c=some (iT q)->c≠l2:=fun ec=>lst ec v2.1;have e3:upd J2 l1 (.lst (((u0::ur).eraseIdx k).map fun z=>V.ref z.1)) l2=some (.lst (vs.map fun z=>V.ref z.1)):=by rw [qf n12.symm];exact v2.1
   refine ⟨l2,_,_,rfl,rfl,e3,by rw [ya];exact qi (by omega),?_⟩;have up:∀ {c:Addr} {o1 o2:HO} {q:Nat×Nat},J2 c=some (iT q)->upd (upd J2 l1 o1) l2 o2 c=some (iT q):=fun ec=>by rw [qf (l2ne ec),qf (l1ne ec)];exact ec
   refine ⟨(u0::ur).eraseIdx k,vs++[(u0::ur)[k]],by rw [List.length_eraseIdx_of_lt hk,yA];omega,rfl,fun c o n e=>?_,?_,⟨by rw [qf n12,qb],fun z hz=>up (u2.2 z (List.mem_of_mem_eraseIdx hz))⟩,⟨by rw [qb,yu];rfl,fun z hz=>?_⟩,?_⟩
   ·rw [qf (fun z=>by rw [z,h20] at e;cases e),qf (fun z=>by rw [z,h1] at e;cases e)];exact b02 c o n e
   ·obtain ⟨x,y,w,e,r⟩:=p2;exact ⟨x,y,w,by rw [qf n2.symm,qf n1.symm];exact e,r⟩
   ·rcases yz.mp hz with y | y
    ·exact up (v2.2 z y)
    ·rw [yy.mp y];exact up (u2.2 _ mk)
   ·rw [Yj];exact (List.Perm.append_left vs (qbV (u0::ur) k hk)).trans hperm
theorem ok_ftJ (F:Fun K "_law_fitting" "_law_fitting" zK f fd) (T:Txt K mg cc cw) (kW:DefOk P w K mg base CX0 1 "_law_take" ["_law_purse_here","_law_many_here"] spTkP) (uL:DefOk P w K mg base CX0 2 "_law_shuffled" ["_law_purse_here","_law_things"] spShJ):FnOk P w K mg base CX0 3 f fd ["_law_purse_here","_law_ties_here"] spFtJ:=by
 refine F.ok Km fun _ _ _ _ H vs Q E hr h=>?_
 ·obtain ⟨p,l,ts,m,TI,rfl,hp,hI,hlp,hT,q⟩:=h;have hu:=jP hr;refine ⟨_,(qc (qj (i:=2) Km.nd rfl (yE rfl) (qk kW (hmR hr) qw (qa (pv 0) (qa qh qd))))
 (qc (qj (i:=3) Km.nd rfl (yE rfl) (qM qd))
 (qc (qj (i:=4) Km.nd rfl (yE rfl) (qM qd))
 (qc (ji yV rfl (qdy (K:=K) rfl (qk uL (hmR hr) qw (qa (pv 0) (qa (pv 1) qd)))) (qbM rfl (jw (qq (i:=5) Km.nd rfl (yE rfl)) (jw (qq (i:=6) Km.nd rfl (yE rfl)) qaT)))
 (qe (qT (PW.pt (qbj (qo (zg (K:=K) rfl hu) (pv 5) (pv 3) (by with_unfolding_all rfl)) (qbj (qo (zg (K:=K) rfl hu) (pv 6) (pv 3) (by with_unfolding_all rfl)) (qbX (qo qcX (qp (jI (K:=K) rfl) rfl T.b_len YA (qa (pv 4) qd)) (pv 2) (qB _)))))) (qc (qL (qaW (K:=K) rfl yD xE xF qag (pv 3) (qa (qM (qa (pv 5) (qa (pv 6) qd))) qd)))
 (qe (qL (qaW (K:=K) rfl yD y0 Yb qI (pv 4) (qa (jA (qa (pv 5) (qa (pv 6) qd))) qd))))) qv)))
 (qe (qm (pv 4))))))),?_⟩
  ext;refine ⟨p,9,rfl,hp,by decide,by decide,fun most H1 hm b1 p1=>?_⟩;have hI1:=hI.butJ b1 hp hlp;obtain ⟨zs,rfl,hZ⟩:=hI1.zip;have hzl:zs.length<=30:=by have:=hT.1;rwa [ya] at this
  ext;refine ⟨by decide,fun sn hsn=>?_⟩;have s2:=qF (Sr H1) (o:=.lst []) hsn;have e2:upd H1 sn (.lst []) sn=some (.lst []):=qb;generalize upd H1 sn (.lst [])=H2 at s2 e2;ext;refine ⟨by decide,fun fo hfo=>?_⟩;have s3:=qF (Sr H2) (o:=.lst []) hfo;have e3:upd H2 fo (.lst []) fo=some (.lst []):=qb;generalize upd H2 fo (.lst [])=H3 at s3 e3;have s13:=s2.trans s3;have nsf:sn≠fo:=qD e2 hfo;have p3:=p1.same s13;have snp:sn≠p:=p1.apart hsn;have fop:fo≠p:=(p1.same s2).apart hfo;ext;refine qeD ?_;ext;refine ⟨p,l,zs,rfl,p3,hZ.same s13,hlp,hzl,fun r us H4 b4 p4 hr0 hrp hU hperm=>?_⟩;have e4s:=b4 _ _ snp (s3 _ _ e2);have e4f:=b4 _ _ fop e3;have hsr:r≠sn:=fun z=>by rw [z,s3 _ _ e2] at hr0;cases hr0
  have hfr:r≠fo:=fun z=>by rw [z,e3] at hr0;cases hr0
  have hul:us.length<=30:=by rw [hperm.length_eq];exact hzl
  have b04:But p H H4:=b1.trans7 (But.trans7 (fun c o _ e=>s13 c o e) b4);have free:∀ {c:Addr},H1 c=none->c≠p->H c=none:=fun h n=>b1.free7 n h;have hs0:=free hsn snp;have hf0:=free (s2.free hfo) fop;refine ⟨r,_,rfl,.of hU.1,qV (xs:=us.map fun z=>V.ref z.1) (fun i σ J=>∃ (y5 y6:Option V) (PZ:List (Addr×(Nat×Nat))),σ=[some (.ref p),some (.ref l),some (.int (most:Int)),some (.ref sn),some (.ref fo),y5,y6]/\But p H J/\Pu J p/\IPZ J r us/\J sn=some (.lst ((qaR (PZ.map Prod.snd)).map iV))/\IPZ J fo PZ/\(∀ z∈PZ,z.2∈us.map Prod.snd)/\(qaR (PZ.map Prod.snd)).Nodup/\PZ.length<=most) ⟨_,_,[],rfl,b04,p4,hU,e4s,⟨e4f,fun z hz=>by cases hz⟩,(fun z hz=>by cases hz),kP,YK _⟩ (fun i σ J _ hp=>by obtain ⟨_,_,_,_,_,_,z,_⟩:=hp;exact .of z.1) (fun i y σ J hy hp=>?_) fun σ J hp=>?_⟩
  ·obtain ⟨y5,y6,PZ,rfl,bJ,pJ,uJ,sJ,fJ,hin,hnd,hle⟩:=hp;rw [yd] at hy;obtain ⟨z0,hz0,rfl⟩:=yn.mp hy;have hzm:=ye hz0;have ez0:=uJ.2 z0 hzm;have hq:=hT.2.1 z0.2 (yQ.mpr ⟨z0,hperm.mem_iff.mp hzm,rfl⟩);have hml:(qaR (PZ.map Prod.snd)).length<=16:=by rw [nums_len,ya];omega
   refine ⟨z0.1,_,rfl,.of ez0,rfl,_,_,rfl,_,_,rfl,rfl,?_⟩;ext;refine qde sJ ?_;ext;have stay:∃ (y5 y6:Option V) (PZ:List (Addr×(Nat×Nat))),[some (V.ref p),some (V.ref l),some (V.int (most:Int)),some (V.ref sn),some (V.ref fo),some (V.int (z0.2.1:Int)),some (V.int (z0.2.2:Int))]=[some (.ref p),some (.ref l),some (.int (most:Int)),some (.ref sn),some (.ref fo),y5,y6]/\But p H J/\Pu J p/\IPZ J r us/\J sn=some (.lst ((qaR (PZ.map Prod.snd)).map iV))/\IPZ J fo PZ/\(∀ z∈PZ,z.2∈us.map Prod.snd)/\(qaR (PZ.map Prod.snd)).Nodup/\PZ.length<=most:=⟨_,_,PZ,rfl,bJ,pJ,uJ,sJ,fJ,hin,hnd,hle⟩;refine qP (fun h1=>?_) fun h1=>?_
   ·ext;refine qde sJ ?_;ext;refine qP (fun h2=>?_) fun h2=>?_
    ·ext;refine zd fJ.1 ?_;rw [ya];ext;refine qP (fun h3=>?_) fun h3=>?_
     ·have h1':z0.2.1∉qaR (PZ.map Prod.snd):=by simpa using h1
      have h2':z0.2.2∉qaR (PZ.map Prod.snd):=by simpa using h2
      have h3':PZ.length < most:=by have:=yk h3;omega
      ext;refine ⟨.inl ⟨rfl,_,.of sJ⟩,?_⟩;ext;refine ⟨by show 2<=sizeLine;decide,fun g hg=>?_⟩;have sg:=qF (Sr J) (o:=.lst [.int (z0.2.1:Int),.int (z0.2.2:Int)]) hg;have eg:upd J g (.lst [.int (z0.2.1:Int),.int (z0.2.2:Int)]) g=some (.lst [.int (z0.2.1:Int),.int (z0.2.2:Int)]):=qb;generalize upd J g (.lst [.int (z0.2.1:Int),.int (z0.2.2:Int)])=J1 at sg eg;ext;refine ⟨sn,g,_,_,rfl,rfl,sg _ _ sJ,eg,by rw [ya];exact yX (qi (by show _ + 2<=1000;omega)),?_⟩;have tup:∀ {G:Hp} {c a:Addr} {xs:List V} {q:Nat×Nat},G c=some (iT q)->G a=some (.lst xs)->c≠a:=fun ec er z=>by rw [z,er] at ec;cases ec
      have en:(qaR (PZ.map Prod.snd)).map iV++[V.int (z0.2.1:Int),V.int (z0.2.2:Int)]=(qaR ((PZ++[((0:Addr),z0.2)]).map Prod.snd)).map iV:=by
       rw [yu (f:=Prod.snd)];show _=(qaR (PZ.map Prod.snd++[z0.2])).map iV;rw [qbF,yu];rfl
      rw [en];have e2s:upd J1 sn (.lst ((qaR ((PZ++[((0:Addr),z0.2)]).map Prod.snd)).map iV)) sn=some (.lst ((qaR ((PZ++[((0:Addr),z0.2)]).map Prod.snd)).map iV)):=qb;have k2:∀ c o,c≠sn->J c=some o->upd J1 sn (.lst ((qaR ((PZ++[((0:Addr),z0.2)]).map Prod.snd)).map iV)) c=some o:=fun c o n e=>by rw [qf n];exact sg _ _ e
      generalize upd J1 sn (.lst ((qaR ((PZ++[((0:Addr),z0.2)]).map Prod.snd)).map iV))=J2 at e2s k2;have f2:=k2 _ _ nsf.symm fJ.1;ext;refine ⟨.inl ⟨rfl,_,.of f2⟩,?_⟩;ext;refine ⟨by show 2<=sizeLine;decide,fun t ht=>?_⟩;have st:=qF (Sr J2) (o:=.tup [.int (z0.2.1:Int),.int (z0.2.2:Int)]) ht;have et:upd J2 t (.tup [.int (z0.2.1:Int),.int (z0.2.2:Int)]) t=some (iT z0.2):=qb;generalize upd J2 t (.tup [.int (z0.2.1:Int),.int (z0.2.2:Int)])=J3 at st et;ext;have f3:=st _ _ f2;refine ⟨fo,_,_,rfl,rfl,f3,by rw [ya];exact qi (by omega),?_⟩;have k3:∀ c o,c≠sn->c≠fo->J c=some o->upd J3 fo (.lst ((PZ.map fun z=>V.ref z.1)++[V.ref t])) c=some o:=fun c o n1 n2 e=>by rw [qf n2];exact st _ _ (k2 _ _ n1 e)
      have kT:∀ {c:Addr} {q:Nat×Nat},J c=some (iT q)->upd J3 fo (.lst ((PZ.map fun z=>V.ref z.1)++[V.ref t])) c=some (iT q):=fun e=>k3 _ _ (tup e sJ) (tup e fJ.1) e;refine ⟨_,_,PZ++[(t,z0.2)],rfl,fun c o n e=>k3 c o (fun z=>by rw [z,hs0] at e;cases e) (fun z=>by rw [z,hf0] at e;cases e) (bJ c o n e),?_,⟨k3 _ _ hsr hfr uJ.1,fun z hz=>kT (uJ.2 z hz)⟩,?_,⟨?_,fun z hz=>?_⟩,fun z hz=>?_,?_,?_⟩
      ·obtain ⟨a1,a2,a3,e,rr⟩:=pJ;exact ⟨a1,a2,a3,k3 _ _ snp.symm fop.symm e,rr⟩
      ·rw [qf nsf,st _ _ e2s,yu,yu];rfl
      ·rw [qb,yu];rfl
      ·rcases yz.mp hz with z' | z'
       ·exact kT (fJ.2 z z')
       ·rw [yy.mp z'];show upd J3 fo _ t=_;rw [qf (tup et f3)];exact et
      ·rcases yz.mp hz with z' | z'
       ·exact hin z z'
       ·rw [yy.mp z'];exact yQ.mpr ⟨z0,hzm,rfl⟩
      ·rw [yu];show (qaR (PZ.map Prod.snd++[z0.2])).Nodup;rw [qbF];refine Yg.mpr ⟨hnd,?_,fun a ha b hb e=>?_⟩
       ·rw [yo];exact ⟨fun z=>by have:=yy.mp z;omega,Y9 _ _⟩
       ·subst e;rcases yB.mp hb with z | z
        ·rw [z] at ha;exact h1' ha
        ·rw [yy.mp z] at ha;exact h2' ha
      ·rw [yt];show PZ.length + 1<=most;omega
     ·exact stay
    ·exact qP (fun h=>by cases h) fun _=>stay
   ·exact qP (fun h=>by cases h) fun _=>stay
  ·obtain ⟨y5,y6,PZ,rfl,bJ,pJ,uJ,sJ,fJ,hin,hnd,hle⟩:=hp;ext
   exact q fo PZ J bJ pJ fop fJ (fun z hz=>by
    obtain ⟨z1,h1,h2⟩:=yQ.mp (hin z hz);rw [<- h2];exact yQ.mpr ⟨z1,hperm.mem_iff.mp h1,rfl⟩) hnd (by omega)
theorem Kz:FnScope ["_law_purse_here","_law_names_here","_law_pairs","_law_found","_law_one_here","_law_other","_law_turn"] ["_law_purse_here","_law_names_here","_law_pairs"] (qg qaS):=fS
theorem KQ:FnScope ["_law_names_here","_law_bits_here","_law_bar","_law_many_here","_law_gone","_law_pieces_here"] ["_law_names_here","_law_bits_here","_law_bar"] (qg qao):=fS
noncomputable abbrev sT (q:Str×Str):HO:=.tup [.str q.1,.str q.2]
noncomputable def SPZ (H:Hp) (l:Addr) (zs:List (Addr×(Str×Str))):Prop:=H l=some (.lst (zs.map fun z=>V.ref z.1))/\∀ z∈zs,H z.1=some (sT z.2)
theorem SPZ.pl {zs:List (Addr×(Str×Str))} (h:SPZ H l zs):PL H l (zs.map Prod.fst) (zs.map Prod.snd):=by
 refine ⟨by rw [Xm];exact h.1,by rw [ya,ya],fun k a b ha hb=>?_⟩;rw [yd] at ha hb;obtain ⟨z,hz,rfl⟩:=yn.mp ha;rw [hz] at hb;cases hb;exact h.2 z (ye hz)
structure NdP (ss:List Str) (TI PI:List (Nat×Nat)) (qs:List (Str×Str)):Prop where
 inn:∀ q∈qs,(q∈TI.map (nmP ss)\/(q.2,q.1)∈TI.map (nmP ss))/\q.1∈ss/\q.2∈ss/\q.1≠q.2
 per:(qu qs).Perm ((qaR PI).map (tn ss))
 len:qs.length=PI.length
theorem NdP.snoc {TI PI:List (Nat×Nat)} (h:NdP ss TI PI qs) (hn:ss.Nodup) (hT:TJ ss.length TI) (hq:q∈TI) {y:Str×Str} (hy:y=nmP ss q\/y=((nmP ss q).2,(nmP ss q).1)):NdP ss TI (PI++[q]) (qs++[y]):=by
 have m:nmP ss q∈TI.map (nmP ss):=xL hq;obtain ⟨h1,h2,h3⟩:=qdd hn hT _ m;refine ⟨fun z hz=>?_,?_,by rw [yt,yt,h.len];rfl⟩
 ·rcases yz.mp hz with k | k
  ·exact h.inn z k
  ·rw [yy.mp k];rcases hy with rfl | rfl
   ·exact ⟨.inl m,h1,h2,h3⟩
   ·exact ⟨.inr m,h2,h1,h3.symm⟩
 ·rw [zq,qbF,yu];refine h.per.append ?_;rcases hy with rfl | rfl
  ·exact kg _
  ·exact List.Perm.swap _ _ _
theorem NdP.go {TI PI:List (Nat×Nat)} {rs:List (Str×Str)} (h:NdP ss TI PI qs) (hn:ss.Nodup) (hT:TJ ss.length TI) (hP:∀ q∈PI,q∈TI) (nd:(qaR PI).Nodup) (h8:PI.length<=8) (hr:rs.Perm qs):PGo ss (TI.map (nmP ss)) rs:=by
 have hl:∀ k∈qaR PI,k < ss.length:=fun k hk=>by
  unfold qaR at hk;obtain ⟨q,hq,hk⟩:=xp.mp hk;have:=hT.2.1 q (hP q hq);rcases yB.mp hk with z | z
  ·omega
  ·have:=yy.mp z;omega
 refine ⟨fun q hq=>h.inn q (hr.mem_iff.mp hq),?_,by rw [hr.length_eq,h.len];omega⟩;have e:(qu rs).Perm (qu qs):=hr.flatMap_right _;rw [e.nodup_iff,h.per.nodup_iff];exact YF.mpr (nd.imp_of_mem fun {x y} hx hy hne e=>hne (zA hn (hl x hx) (hl y hy) e))
inductive spNdJ (vs:List V) (H:Hp) (Q:VK) (E:XK):Prop|mk (p n l:Addr) (ss:List Str) (TI:List (Nat×Nat)) (zs:List (Addr×(Nat×Nat))) (_:vs=[.ref p,.ref n,.ref l]) (_:Pu H p) (_:H n=some (.lst (ss.map V.str))) (_:n≠p) (_:NOk ss) (_:TJ ss.length TI) (_:IPZ H l zs) (_:l≠p) (_:(∀ z∈zs,z.2∈TI)) (_:(qaR (zs.map Prod.snd)).Nodup) (_:zs.length<=8) (_:∀ (r:Addr) (us:List Addr) (qs:List (Str×Str)) (H':Hp),But p H H'->Pu H' p->PL H' r us qs->PGo ss (TI.map (nmP ss)) qs->qs.length=zs.length->Q (.ref r) H')
inductive spLkJ (vs:List V) (H:Hp) (Q:VK) (E:XK):Prop|mk (n bb a:Addr) (ss:List Str) (TI:List (Nat×Nat)) (bs gs:List Nat) (_:vs=[.ref n,.ref bb,.ref a]) (_:H n=some (.lst (ss.map V.str))) (_:H bb=some (.lst (qau bs))) (_:BarJ ss TI bs gs) (_:H a=some (.lst ((gs.map (tn ss)).map V.str))) (_:∀ (H':Hp),L2.Same H H'->Q (.int ((odJ bs gs ss.length:Nat) - (gs.length:Nat))) H')
theorem ok_ndJ (F:Fun K "_law_named" "_law_named" qaS f fd) (T:Txt K mg cc cw) (kW:DefOk P w K mg base CX0 1 "_law_take" ["_law_purse_here","_law_many_here"] spTkP):FnOk P w K mg base CX0 2 f fd ["_law_purse_here","_law_names_here","_law_pairs"] spNdJ:=by
 refine F.ok Kz fun _ _ _ _ H vs Q E hr h=>?_
 ·obtain ⟨p,n,l,ss,TI,zs,rfl,hp,hn,hnp,hO,hT,hZ,hlp,hin,hnd,h8,q⟩:=h;have hu:=jP hr;refine ⟨_,(qc (qj (i:=3) Kz.nd rfl (yE rfl) (qM qd))
 (qc (ji yV rfl (qdy (K:=K) rfl (pv 2)) (qbM rfl (jw (qq (i:=4) Kz.nd rfl (yE rfl)) (jw (qq (i:=5) Kz.nd rfl (yE rfl)) qaT)))
 (qe (qL (qaW (K:=K) rfl yD y0 Yb qI (pv 3) (qa (qr (qt (K:=K) rfl hu) (qM (qa (jA (qa (qr (qt (K:=K) rfl hu) (pv 1) (pv 4) (fun _ _=>rfl)) (qa (qr (qt (K:=K) rfl hu) (pv 1) (pv 5) (fun _ _=>rfl)) qd))) (qa (jA (qa (qr (qt (K:=K) rfl hu) (pv 1) (pv 5) (fun _ _=>rfl)) (qa (qr (qt (K:=K) rfl hu) (pv 1) (pv 4) (fun _ _=>rfl)) qd))) qd))) (qk kW (hmR hr) qw (qa (pv 0) (qa qh qd))) (fun _ _=>rfl)) qd)))))
 (qc (qj (i:=6) Kz.nd rfl (yE rfl) (qk kW (hmR hr) qw (qa (pv 0) (qa (qp (qbo rfl) rfl T.b_max boot_max (qa qh (qa (qp (jI (K:=K) rfl) rfl T.b_len YA (qa (pv 3) qd)) qd))) qd))))
 (qe (qm (qx (j3 (K:=K) rfl) (jf (qc2 (K:=K) rfl) (pv 3) (jk (pv 6)) jz) (jf (qc2 (K:=K) rfl) (pv 3) jz (jk (pv 6))))))))),?_⟩
  ext;refine ⟨by show 0<=sizeLine;decide,fun h hh=>?_⟩;have s1:=qF (Sr H) (o:=.lst []) hh;have eh:upd H h (.lst []) h=some (.lst []):=qb;generalize upd H h (.lst [])=H1 at s1 eh;have hhp:h≠p:=hp.apart hh;ext;refine qeD ?_;ext;have puT:∀ {c:Addr} {q:Nat×Nat},H c=some (iT q)->c≠p:=fun ec z=>by obtain ⟨x,y,w,e,_⟩:=hp;rw [z,e] at ec;cases ec
  refine ⟨l,_,rfl,.of (s1 _ _ hZ.1),qV (xs:=zs.map fun z=>V.ref z.1) (fun i σ J=>But p H J/\Pu J p/\∃ (YZ:List (Addr×(Str×Str))) (y4 y5:Option V),σ=[some (.ref p),some (.ref n),some (.ref l),some (.ref h),y4,y5,none]/\SPZ J h YZ/\NdP ss TI ((zs.take i).map Prod.snd) (YZ.map Prod.snd)) ⟨fun c o _ e=>s1 c o e,hp.same s1,[],_,_,rfl,⟨eh,fun z hz=>by cases hz⟩,⟨fun q hq=>(by cases hq),kg _,rfl⟩⟩ (fun i σ J _ hp=>.of (hp.1 _ _ hlp hZ.1)) (fun i y σ J hy hp'=>?_) fun σ J hp'=>?_⟩
  ·obtain ⟨bJ,pJ,YZ,y4,y5,rfl,hY,hN⟩:=hp';rw [yd] at hy;obtain ⟨z0,hz0,rfl⟩:=yn.mp hy;have hzm:=ye hz0;have hq:=hT.2.1 z0.2 (hin z0 hzm);have ez:=bJ _ _ (puT (hZ.2 z0 hzm)) (hZ.2 z0 hzm);have hnJ:=bJ _ _ hnp hn;have hil:i < zs.length:=(yc.mp hz0).1;have hyl:YZ.length<=8:=by have:=hN.len;rw [ya,ya,yL] at this;omega
   refine ⟨z0.1,_,rfl,.of ez,rfl,_,_,rfl,_,_,rfl,rfl,?_⟩;ext;refine ⟨.inl ⟨rfl,_,.of hY.1⟩,?_⟩;ext;refine qbK hnJ (by omega) ?_;ext;refine qbK hnJ hq.2 ?_;ext;refine ⟨by show 2<=sizeLine;decide,fun t1 ht1=>?_⟩;have s2:=qF (Sr J) (o:=.tup [.str (tn ss z0.2.1),.str (tn ss z0.2.2)]) ht1;have et1:upd J t1 (.tup [.str (tn ss z0.2.1),.str (tn ss z0.2.2)]) t1=some (sT (nmP ss z0.2)):=qb;generalize upd J t1 (.tup [.str (tn ss z0.2.1),.str (tn ss z0.2.2)])=J2 at s2 et1;ext;refine qbK (s2 _ _ hnJ) hq.2 ?_;ext;refine qbK (s2 _ _ hnJ) (by omega) ?_;ext;refine ⟨by show 2<=sizeLine;decide,fun t2 ht2=>?_⟩;have s3:=qF (Sr J2) (o:=.tup [.str (tn ss z0.2.2),.str (tn ss z0.2.1)]) ht2;have et2:upd J2 t2 (.tup [.str (tn ss z0.2.2),.str (tn ss z0.2.1)]) t2=some (sT ((nmP ss z0.2).2,(nmP ss z0.2).1)):=qb;generalize upd J2 t2 (.tup [.str (tn ss z0.2.2),.str (tn ss z0.2.1)])=J3 at s3 et2;ext;refine ⟨by show 2<=sizeLine;decide,fun g hg=>?_⟩;have s4:=qF (Sr J3) (o:=.lst [.ref t1,.ref t2]) hg;have eg:upd J3 g (.lst [.ref t1,.ref t2]) g=some (.lst [.ref t1,.ref t2]):=qb;generalize upd J3 g (.lst [.ref t1,.ref t2])=J4 at s4 eg;have s24:=(s2.trans s3).trans s4;have p4:=pJ.same s24;ext;refine ⟨p,2,rfl,p4,by decide,by decide,fun d J5 hd b5 p5=>?_⟩;have pT:∀ {c:Addr} {q:Str×Str},J4 c=some (sT q)->J5 c=some (sT q):=fun ec=>b5 _ _ (fun z=>by obtain ⟨x,y,w,e,_⟩:=p4;rw [z,e] at ec;cases ec) ec;have hgp:g≠p:=((pJ.same s2).same s3).apart hg
   obtain ⟨t,y,hgt,ht,hyy⟩:∃ (t:Addr) (y:Str×Str),[V.ref t1,V.ref t2][d]?=some (.ref t)/\J5 t=some (sT y)/\(y=nmP ss z0.2\/y=((nmP ss z0.2).2,(nmP ss z0.2).1)):=by
    match d,hd with
    | 0,_=>exact ⟨t1,_,rfl,pT (s4 _ _ (s3 _ _ et1)),.inl rfl⟩
    | 1,_=>exact ⟨t2,_,rfl,pT (s4 _ _ et2),.inr rfl⟩
   refine .inl (qae (b5 _ _ hgp eg) (qy hgt) ?_);have e5:=b5 _ _ hhp (s24 _ _ hY.1);ext;refine ⟨h,_,_,rfl,rfl,e5,by rw [ya];exact qi (by omega),?_⟩;have kT:∀ {c:Addr} {q:Str×Str} {o:HO},J5 c=some (sT q)->upd J5 h o c=some (sT q):=fun ec=>by rw [qf (fun z=>by rw [z,e5] at ec;cases ec)];exact ec
   refine ⟨fun c o n e=>?_,?_,YZ++[(t,y)],_,_,rfl,⟨by rw [qb,yu];rfl,fun z hz=>?_⟩,?_⟩
   ·rw [qf (fun z=>by rw [z,hh] at e;cases e)];exact b5 _ _ n (s24 _ _ (bJ c o n e))
   ·obtain ⟨a1,a2,a3,e,rr⟩:=p5;exact ⟨a1,a2,a3,by rw [qf hhp.symm];exact e,rr⟩
   ·rcases yz.mp hz with z' | z'
    ·exact kT (pT (s24 _ _ (hY.2 z z')))
    ·rw [yy.mp z'];exact kT ht
   ·rw [yH,hz0,yu,yu];exact hN.snoc hO.nd hT (hin z0 hzm) hyy
  ·obtain ⟨bJ,pJ,YZ,y4,y5,rfl,hY,hN⟩:=hp';rw [show (zs.map fun z=>V.ref z.1).length=zs.length from ya _,yM] at hN;have hyl:YZ.length=zs.length:=by have:=hN.len;rwa [ya,ya] at this
   ext;refine zd hY.1 ?_;rw [ya];ext;refine ⟨_,_,rfl,?_⟩
   obtain ⟨M,eM,hM0,hM1⟩:∃ M:Nat,(if ((YZ.length:Nat):Int) > 1 then ((YZ.length:Nat):Int) else 1)=(M:Int)/\0 < M/\M < 1000:=by
    by_cases h1:1 < YZ.length
    ·rw [yF (by omega)];exact ⟨YZ.length,rfl,by omega,by omega⟩
    ·rw [yC (by omega)];exact ⟨1,rfl,by decide,by decide⟩
   rw [eM];ext;refine ⟨p,M,rfl,pJ,hM0,hM1,fun tu H2 htu b2 p2=>?_⟩;have pT:∀ {c:Addr} {q:Str×Str},J c=some (sT q)->H2 c=some (sT q):=fun ec=>b2 _ _ (fun z=>by obtain ⟨x,y,w,e,_⟩:=pJ;rw [z,e] at ec;cases ec) ec;have e2:=b2 _ _ hhp hY.1;have b02:=bJ.trans7 b2;ext;refine .inl ⟨h,_,rfl,.of e2,fun g1 hg1=>?_⟩;have ed:qb0 (YZ.map fun z=>V.ref z.1) (some (tu:Int)) none=(YZ.drop tu).map fun z=>V.ref z.1:=by rw [qaF,List.map_drop]
   rw [ed];have s3:=qF (Sr H2) (o:=.lst ((YZ.drop tu).map fun z=>V.ref z.1)) hg1;have e3:upd H2 g1 (.lst ((YZ.drop tu).map fun z=>V.ref z.1)) g1=some (.lst ((YZ.drop tu).map fun z=>V.ref z.1)):=qb;generalize upd H2 g1 (.lst ((YZ.drop tu).map fun z=>V.ref z.1))=H3 at s3 e3;ext;refine .inl ⟨h,_,rfl,.of (s3 _ _ e2),fun g2 hg2=>?_⟩;have et:qb0 (YZ.map fun z=>V.ref z.1) none (some (tu:Int))=(YZ.take tu).map fun z=>V.ref z.1:=by rw [zT,kQ]
   rw [et];have s4:=qF (Sr H3) (o:=.lst ((YZ.take tu).map fun z=>V.ref z.1)) hg2;have e4:upd H3 g2 (.lst ((YZ.take tu).map fun z=>V.ref z.1)) g2=some (.lst ((YZ.take tu).map fun z=>V.ref z.1)):=qb;generalize upd H3 g2 (.lst ((YZ.take tu).map fun z=>V.ref z.1))=H4 at s4 e4;ext;show qcy K (V.ref g1) (V.ref g2) H4 _;refine .inl ⟨g1,g2,_,_,rfl,rfl,s4 _ _ e3,e4,by rw [ya,ya,Xl,yL];exact yX (qi (by omega)),fun g3 hg3=>?_⟩;have s5:=qF (Sr H4) (o:=.lst (((YZ.drop tu).map fun z=>V.ref z.1)++(YZ.take tu).map fun z=>V.ref z.1)) hg3;have e5:upd H4 g3 (.lst (((YZ.drop tu).map fun z=>V.ref z.1)++(YZ.take tu).map fun z=>V.ref z.1)) g3=some (.lst ((YZ.drop tu++YZ.take tu).map fun z=>V.ref z.1)):=by rw [qb,yu]
   generalize upd H4 g3 (.lst (((YZ.drop tu).map fun z=>V.ref z.1)++(YZ.take tu).map fun z=>V.ref z.1))=H5 at s5 e5
   have hperm:(YZ.drop tu++YZ.take tu).Perm YZ:=by
    have h1:=List.perm_append_comm (l₁:=YZ.drop tu) (l₂:=YZ.take tu)
    rwa [XG] at h1
   have s25:=(s3.trans s4).trans s5;have hS:SPZ H5 g3 (YZ.drop tu++YZ.take tu):=⟨e5,fun z hz=>s25 _ _ (pT (hY.2 z (hperm.mem_iff.mp hz)))⟩;refine q g3 _ _ H5 (fun c o n e=>s25 _ _ (b02 c o n e)) (p2.same s25) hS.pl (hN.go hO.nd hT (fun q hq=>?_) hnd (by rw [ya];exact h8) (hperm.map Prod.snd)) (by rw [ya,hperm.length_eq,hyl]);obtain ⟨z,hz,rfl⟩:=yQ.mp hq;exact hin z hz
theorem ok_lkJ (F:Fun K "_law_lack" "_law_lack" qao f fd) (T:Txt K mg cc cw) (Ui:DefOk P w K mg base CX0 1 "_law_room" ["_law_many_here","_law_gone"] spRmJ) (u3:DefOk P w K mg base CX0 1 "_law_pieces" ["_law_many_here","_law_bits_here","_law_room_here"] spPjJ):FnOk P w K mg base CX0 2 f fd ["_law_names_here","_law_bits_here","_law_bar"] spLkJ:=by
 refine F.ok KQ fun _ _ _ _ H vs Q E hr h=>?_
 ·obtain ⟨n,bb,a,ss,TI,bs,gs,rfl,hn,hbb,B,ha,q⟩:=h;have hu:=jP hr;have hf:=B.few;have h14:=B.ok.few;refine ⟨_,(qc (qj (i:=3) KQ.nd rfl (yE rfl) (qp (jI (K:=K) rfl) rfl T.b_len YA (qa (pv 0) qd)))
 (qc (qaV (sc:=qg qao) (XN:=["_law_names_here","_law_bits_here","_law_bar","_law_many_here","_law_gone","_law_pieces_here"]) ["_law_place","_law_names_here"] 1 [0] rfl rfl rfl (by decide +kernel) rfl (by decide +kernel) (i:=4) KQ.nd rfl rfl
  (qQ (K:=K) rfl (pv 2)) (fun _ _ _ _=>(qq (i:=0) (show (["_law_place","_law_names_here"]:List Str).Nodup by decide +kernel) rfl (yE rfl))) qS
  (fun _ _ _ _=>j0)
  (fun _ _ _ _=>(qaW (K:=K) rfl yD Y6 xS (qb5 (K:=K) rfl) (pv 1) (qa (pv 0) qd))))
 (qc (qj (i:=5) KQ.nd rfl (yE rfl) (qk u3 (hmR hr) qw (qa (pv 3) (qa (pv 1) (qa (qk Ui (hmR hr) qw (qa (pv 3) (qa (pv 4) qd))) qd)))))
 (qe (qm (qx qbl (qp (jI (K:=K) rfl) rfl T.b_len YA (qa (jg (sc:=qg qao) (XN:=["_law_names_here","_law_bits_here","_law_bar","_law_many_here","_law_gone","_law_pieces_here"]) ["_law_piece"] 1 [] rfl rfl rfl (by decide +kernel) rfl (by decide +kernel)
  (qQ (K:=K) rfl (pv 5)) (fun _ _ _ _=>(qq (i:=0) (show (["_law_piece"]:List Str).Nodup by decide +kernel) rfl (yE rfl))) qS
  (fun _ _ _ _=>(q9 (qo (zO (K:=K) rfl hu) (qx ze (qp (jI (K:=K) rfl) rfl T.b_len YA (qa (pv 0) qd)) qh) qh (qB _))))
  (fun _ _ _ _=>(pv 0))) qd)) (qp (jI (K:=K) rfl) rfl T.b_len YA (qa (pv 2) qd)))))))),?_⟩
  ext;refine zd hn ?_;rw [ya];ext;refine .inl ⟨⟨_,.of ha⟩,qK (fun i ys J=>J=H/\ys=(gs.take i).map iV) ⟨rfl,rfl⟩ (fun i ys J _ hp=>by rw [hp.1];exact .of ha) (fun i y ys J hy hp=>?_) fun ys J hp=>?_⟩
  ·obtain ⟨rfl,rfl⟩:=hp;obtain ⟨sy,gi,rfl⟩:=jO hy;rw [yd] at gi;obtain ⟨k,hk,rfl⟩:=yn.mp gi;have hkl:=B.lt k (ye hk);have hil:=(yc.mp hk).1;ext;refine zN ?_;ext;refine ⟨.inl ⟨rfl,_,.of hn⟩,?_⟩;ext;refine ⟨n,ss,_,rfl,rfl,.of hn,qcO hkl,?_⟩;rw [qcJ B.ok.nd (qca hkl)];exact ⟨by rw [ya,yL];exact qi (by omega),rfl,by rw [yH,hk,yu];rfl⟩
  ·obtain ⟨rfl,rfl⟩:=hp;rw [show ((gs.map (tn ss)).map V.str).length=gs.length by rw [ya,ya],yM];refine ⟨by rw [ya];exact yX (qi (by omega)),fun g hg=>?_⟩;have s1:=qF (Sr J) (o:=.lst (gs.map iV)) hg;have eg:upd J g (.lst (gs.map iV)) g=some (.lst (gs.map iV)):=qb;generalize upd J g (.lst (gs.map iV))=H1 at s1 eg;ext;refine ⟨g,ss.length,gs,rfl,h14,eg,fun H2 s2=>?_⟩;have s02:=s1.trans s2;ext;refine ⟨bb,ss.length,rmJ gs ss.length,bs,rfl,h14,s02 _ _ hbb,B.bt.1,B.bt.2.1,B.bt.sym,(qcc gs ss.length).1,fun l ls H3 s3 _ hl hA=>?_⟩;have s03:=s02.trans s3;have hA:All2 (fun a ks=>H3 a=some (.lst (ks.map iV))) ls (pcJ bs gs ss.length):=hA;have few:=yi (qet bs gs ss.length) h14;have q:∀ (H':Hp),L2.Same J H'->Q (.int ((((pcJ bs gs ss.length).filter fun c=>decide (c.length % 2=1)).length:Nat) - (gs.length:Nat))) H':=q;generalize pcJ bs gs ss.length=PS at hA few q;have lsl:=hA.len;ext;refine .inl ⟨⟨_,.of hl⟩,qK (xs:=ls.map V.ref) (fun i ys G=>G=H3/\∃ us:List Addr,ys=us.map V.ref/\us.length=((PS.take i).filter fun c=>decide (c.length % 2=1)).length) ⟨rfl,[],rfl,rfl⟩ (fun i ys G _ hp'=>by rw [hp'.1];exact .of hl) (fun i y ys G hy hp'=>?_) fun ys G hp'=>?_⟩
   ·obtain ⟨rfl,us,rfl,hU⟩:=hp';rw [yd] at hy;obtain ⟨c,hc,rfl⟩:=yn.mp hy;have hi:i < PS.length:=by rw [<- lsl];exact (yc.mp hc).1
    obtain ⟨ks,hks⟩:∃ ks,PS[i]?=some ks:=⟨_,yb hi⟩;have hcp:=hA.at_ i c _ hc hks
    have hul:us.length<=14:=by
     rw [hU];exact yi (yT _ _) (by rw [yL];omega)
    ext;refine zd hcp ?_;rw [ya];ext;refine vI (by decide) ?_;ext;refine qdc ?_;have eo:decide ((ks.length:Int) % 2=1)=decide (ks.length % 2=1):=Yp.mpr (by omega);rw [eo];ext
    have hst:((PS.take (i + 1)).filter fun c=>decide (c.length % 2=1)).length=us.length + if decide (ks.length % 2=1)=true then 1 else 0:=by
     rw [yH,hks,yW,yt,hU];show _ + ([ks].filter fun c=>decide (c.length % 2=1)).length=_;rw [yS,Yv];cases decide (ks.length % 2=1)<;>rfl
    rw [hst];refine qP (fun ho=>?_) (fun ho=>?_)
    ·ext;rw [yF ho];exact ⟨by rw [ya];exact qi (by omega),rfl,us++[c],by rw [yu];rfl,by rw [yt];rfl⟩
    ·rw [yC ho];exact ⟨rfl,us,rfl,rfl⟩
   ·obtain ⟨rfl,us,rfl,hU⟩:=hp';rw [show (ls.map V.ref).length=PS.length by rw [ya,lsl],yM] at hU
    have hul:us.length<=14:=by
     rw [hU];exact yi (yT _ _) few
    refine ⟨by rw [ya];exact yX (qi (by omega)),fun g9 hg9=>?_⟩;have s9:=qF (Sr G) (o:=.lst (us.map V.ref)) hg9;ext;refine zd qb ?_;rw [ya,hU];ext;refine zd (s9 _ _ (s03 _ _ ha)) ?_;rw [ya,ya];ext;exact q _ (s03.trans s9)
theorem KD:FnScope ["_law_purse_here","_law_web","_law_names_here","_law_bits_here","_law_pairs","_law_gone","_law_handed","_law_bar","_law_lack_here","_law_alone","_law_found"] ["_law_purse_here","_law_web","_law_names_here","_law_bits_here","_law_pairs","_law_gone"] (qg qbG):=fS
structure LW (cw p n x bb:Addr) (ss:List Str) (ns bs:List Nat) (TI:List (Nat×Nat)) (J:Hp):Prop where
 pu:Pu J p
 nm:J n=some (.lst (ss.map V.str))
 np:n≠p
 wb:WebP (fun a=>a=p) cw J x ss ns
 bt:J bb=some (.lst (qau bs))
 bp:bb≠p
 ad:Adj ss ns (TI.map (nmP ss))
 o:NOk ss
 t:TJ ss.length TI
 b:BtJ ss.length TI bs
section
variable {cw p n x bb:Addr} {ss:List Str} {ns bs:List Nat} {TI:List (Nat×Nat)} {J J':Hp}
theorem LW.but (h:LW cw p n x bb ss ns bs TI J) (b:But p J J') (hp:Pu J' p):LW cw p n x bb ss ns bs TI J':=
 ⟨hp,b _ _ h.np h.nm,h.np,h.wb.keep b,b _ _ h.bp h.bt,h.bp,h.ad,h.o,h.t,h.b⟩
theorem LW.same (h:LW cw p n x bb ss ns bs TI J) (s:L2.Same J J'):LW cw p n x bb ss ns bs TI J':=h.but (fun c o _ e=>s c o e) (h.pu.same s)
theorem LW.wt (h:LW cw p n x bb ss ns bs TI J):Wt cw J x ss ns (TI.map (nmP ss)):=⟨h.wb.web,h.ad,qdd h.o.nd h.t⟩
end
structure PB (p pr go:Addr) (n:Nat) (TI:List (Nat×Nat)) (zs:List (Addr×(Nat×Nat))) (gs:List Nat) (J:Hp):Prop where
 z:IPZ J pr zs
 zp:pr≠p
 zi:∀ z∈zs,z.2∈TI
 zn:(qaR (zs.map Prod.snd)).Nodup
 z8:zs.length<=8
 g:J go=some (.lst (gs.map iV))
 gp:go≠p
 gn:gs.Nodup
 gl:∀ k∈gs,k < n
theorem PB.but {pr go:Addr} {TI:List (Nat×Nat)} {J J':Hp} (h:PB p pr go n TI zs gs J) (b:But p J J') (hp:Pu J p):PB p pr go n TI zs gs J':=
 ⟨⟨b _ _ h.zp h.z.1,fun z hz=>b _ _ (fun e=>by obtain ⟨x,y,w,e',_⟩:=hp;have:=h.z.2 z hz;rw [e,e'] at this;cases this) (h.z.2 z hz)⟩,h.zp,h.zi,h.zn,h.z8,b _ _ h.gp h.g,h.gp,h.gn,h.gl⟩
inductive spOnJ (cw:Addr) (vs:List V) (H:Hp) (Q:VK) (E:XK):Prop|mk (p x n bb pr go:Addr) (ss:List Str) (ns bs gs:List Nat) (TI:List (Nat×Nat)) (zs:List (Addr×(Nat×Nat))) (_:vs=[.ref p,.ref x,.ref n,.ref bb,.ref pr,.ref go]) (_:LW cw p n x bb ss ns bs TI H) (_:PB p pr go ss.length TI zs gs H) (_:∀ (H':Hp),But p H H'->Pu H' p->Q (.bl true) H')
theorem ne_bl {a b:Bool} {Q:VK} (h:a=b) (q:Q (.bl false) H):qe7 K true (.bl a) (.bl b) H Q:=.inl ⟨rfl,rfl,by subst h;cases a<;>exact q⟩
theorem neI {a b:Int} {Q:VK} (h:a=b) (q:Q (.bl false) H):qe7 K true (.int a) (.int b) H Q:=.inl ⟨rfl,rfl,by
 subst h;have:(if true=true then !eqV (V.int a) (V.int a) else eqV (V.int a) (V.int a))=false:=by simp [eqV]
 rw [this];exact q⟩
theorem ok_onJ (F:Fun K "_law_one" "_law_one" qbG f fd) (T:Txt K mg cc cw) (Ub:DefOk P w K mg base CX0 2 "_law_named" ["_law_purse_here","_law_names_here","_law_pairs"] spNdJ) (ud:DefOk P w K mg base CX0 2 "_law_lack" ["_law_names_here","_law_bits_here","_law_bar"] spLkJ) (K6:DefOk P w K mg base CX0 11 "lack_of" ["web","bar"] (spLk cw)) (uu:DefOk P w K mg base CX0 12 "shows" ["web","thing"] (spSh cw)) (Uj:DefOk P w K mg base CX0 15 "is_bar" ["web","thing"] (spIb cw)):FnOk P w K mg base CX0 16 f fd ["_law_purse_here","_law_web","_law_names_here","_law_bits_here","_law_pairs","_law_gone"] (spOnJ cw):=by
 refine F.ok KD fun _ _ _ s H vs Q E hr h=>?_
 ·obtain ⟨p,x,n,bb,pr,go,ss,ns,bs,gs,TI,zs,rfl,L,hB,q⟩:=h;have hu:=jP hr;refine ⟨_,(qc (qj (i:=6) KD.nd rfl (yE rfl) (qk Ub (hmR hr) qw (qa (pv 0) (qa (pv 2) (qa (pv 4) qd)))))
 (qc (qaV (sc:=qg qbG) (XN:=["_law_purse_here","_law_web","_law_names_here","_law_bits_here","_law_pairs","_law_gone","_law_handed","_law_bar","_law_lack_here","_law_alone","_law_found"]) ["_law_k","_law_names_here"] 1 [2] rfl rfl rfl (by decide +kernel) rfl (by decide +kernel) (i:=7) KD.nd rfl rfl
  (qQ (K:=K) rfl (pv 5)) (fun _ _ _ _=>(qq (i:=0) (show (["_law_k","_law_names_here"]:List Str).Nodup by decide +kernel) rfl (yE rfl))) qS
  (fun _ _ _ _=>j0)
  (fun _ _ _ _=>(qr (qt (K:=K) rfl hu) (pv 1) (pv 0) (fun _ _=>rfl))))
 (qc (qj (i:=8) KD.nd rfl (yE rfl) (qk ud (hmR hr) qw (qa (pv 2) (qa (pv 3) (qa (pv 7) qd)))))
 (qc (qj (i:=9) KD.nd rfl (yE rfl) (qx qbl (qp (jI (K:=K) rfl) rfl T.b_len YA (qa (pv 2) qd)) (qx qb2 qh (qp (jI (K:=K) rfl) rfl T.b_len YA (qa (pv 4) qd)))))
 (qc (qT (PW.pt (qbI (qo (qa4 (K:=K) rfl hu) (qk K6 (hmR hr) qw (qa (pv 1) (qa (pv 7) qd))) (pv 8) (qB _)) (qax (qo qcX (pv 9) (pv 8) (qB _))))) (qe (qm za)) qv)
 (qc (qj (i:=10) KD.nd rfl (yE rfl) (qk uu (hmR hr) qw (qa (pv 1) (qa (jA (qa (pv 6) (qa (pv 7) qd))) qd))))
 (qc (qT (PW.pt (qbI (je (qZ (qp (qbT (K:=K) rfl) rfl T.b_isinstance YT (qa (pv 10) (qa (jX (v:=.ty "bool") rfl T.b_bool boot_bool rfl) qd))))) (qax (qo (qa4 (K:=K) rfl hu) (pv 10) (jM (zO (K:=K) rfl hu) (pv 9) (pv 8) (qB _)) (qB _))))) (qe (qm za)) qv)
 (qe (qm (pe_or (pe_not (pv 10)) (qbL (jM qfY (qk Uj (hmR hr) qw (qa (pv 1) (qa (pv 7) qd))) za (qB _))))))))))))),?_⟩
  have B:BarJ ss TI bs gs:=⟨L.o,L.t,L.b,hB.gn,hB.gl⟩;have hf:=B.few;have h14:=L.o.few;ext;refine ⟨p,n,pr,ss,TI,zs,rfl,L.pu,L.nm,L.np,L.o,L.t,hB.z,hB.zp,hB.zi,hB.zn,hB.z8,fun r us qs H1 b1 p1 hP hG hql=>?_⟩;have L1:=L.but b1 p1;have B1:=hB.but b1 L.pu;ext;refine .inl ⟨⟨_,.of B1.g⟩,qK (xs:=gs.map iV) (fun i ys J=>J=H1/\ys=((gs.take i).map (tn ss)).map V.str) ⟨rfl,rfl⟩ (fun i ys J _ hp=>by rw [hp.1];exact .of B1.g) (fun i y ys J hy hp=>?_) fun ys J hp=>?_⟩
  ·obtain ⟨rfl,rfl⟩:=hp;rw [yd] at hy;obtain ⟨k,hk,rfl⟩:=yn.mp hy;ext;refine zN ?_;ext;refine qbK L1.nm (hB.gl k (ye hk)) ?_;exact ⟨by rw [ya,ya,yL];exact qi (by omega),rfl,by rw [yH,hk,yu,yu];rfl⟩
  ·obtain ⟨rfl,rfl⟩:=hp;rw [show (gs.map iV).length=gs.length from ya _,yM];refine ⟨by rw [ya,ya];exact yX (qi (by omega)),fun a ha=>?_⟩;have s2:=qF (Sr J) (o:=.lst ((gs.map (tn ss)).map V.str)) ha;have ea:upd J a (.lst ((gs.map (tn ss)).map V.str)) a=some (.lst ((gs.map (tn ss)).map V.str)):=qb;generalize upd J a (.lst ((gs.map (tn ss)).map V.str))=H2 at s2 ea;have L2':=L1.same s2;ext;refine ⟨n,bb,a,ss,TI,bs,gs,rfl,L2'.nm,L2'.bt,B,ea,fun H3 s3=>?_⟩;have s03:=s2.trans s3;have L3:=L1.same s03;have hW:WBar cw H3 x a ss ns TI bs gs:=⟨L3.wt,B,s3 _ _ ea⟩;have hw:=qfd B hG;ext;refine zd L3.nm ?_;rw [ya];ext;refine zd (s03 _ _ B1.z.1) ?_;rw [ya];ext;refine qb3 (.inl ⟨by decide,by decide⟩) ?_;ext;refine ⟨x,a,ss,ns,TI,bs,gs,rfl,hW,fun H4 s4=>?_⟩;have s04:=s03.trans s4;ext;refine neI rfl ?_;ext;refine yq ?_;ext;rw [yl (by omega)];ext;refine yq ?_;ext;refine ⟨by show 2<=sizeLine;decide,fun t ht=>?_⟩;have s5:=qF (Sr H4) (o:=.tup [.ref r,.ref a]) ht;have et:upd H4 t (.tup [.ref r,.ref a]) t=some (.tup [.ref r,.ref a]):=qb;generalize upd H4 t (.tup [.ref r,.ref a])=H5 at s5 et;have s05:=s04.trans s5;ext;refine ⟨x,t,r,a,ss,ns,TI,bs,gs,us,qs,rfl,(hW.same s4).same s5,et,hP.same s05,hG,fun H6 s6=>?_⟩;have s06:=s05.trans s6;ext;refine qdS (.inl (.bl _)) rfl (qaX K "bool" (by simp) "bool" (by simp)) ?_;ext;refine yq ?_;ext;refine qdc ?_;refine ne_bl (by unfold qdh;rw [hql]) ?_;ext;refine yq ?_;ext;have fin:∀ H',L2.Same J H'->Q (.bl true) H':=fun H' s=>q H' (fun c o n e=>s _ _ (b1 c o n e)) (p1.same s)
   cases hm:qdh bs gs ss.length qs.length with
   | false =>
    refine zN ?_;exact fin _ s06
   | true =>
    refine yq ?_;ext;refine ⟨x,a,ss,ns,TI,bs,gs,rfl,hW.same ((s4.trans s5).trans s6),fun rs H7 s7 hG7 hM7=>?_⟩
    have e7:qdh bs gs ss.length rs.length=true:=by
     have h1:=qfe L3.wt.ir L.o.nd hG7 hM7 hG;have h2:=qfd B hG7;have h3:=yk hm;exact yG (by omega)
    rw [e7];exact fin _ (s06.trans s7)
theorem Ki:FnScope ["_law_script","_law_cell_here","_law_purse_here","_law_many_here","_law_names_here","_law_ties_here","_law_bits_here","_law_web","_law_most","_law_best","_law_k","_law_pairs","_law_gone"] ["_law_script"] (qg qcP):=fS
inductive spLaw (K:W.Frag) (vs:List V) (H:Hp) (Q:VK) (E:XK):Prop|mk (a:Addr) (ns:List Int) (_:vs=[.ref a]) (_:SqL K H a (ns.map V.int)) (_:ns.length<=63) (_:∀ H',Q (.bl true) H')
theorem NdP.all (hn:ss.Nodup) {TI:List (Nat×Nat)} (hT:TJ ss.length TI) {PI:List (Nat×Nat)} (h:∀ q∈PI,q∈TI):NdP ss TI PI (PI.map (nmP ss)):=by
 refine ⟨fun y hy=>?_,?_,ya _⟩
 ·obtain ⟨q,hq,rfl⟩:=yQ.mp hy;have m:nmP ss q∈TI.map (nmP ss):=xL (h q hq);exact ⟨.inl m,qdd hn hT _ m⟩
 ·have e:qu (PI.map (nmP ss))=(qaR PI).map (tn ss):=by
   clear h
   induction PI with
   | nil=>rfl
   | cons q r ih =>
    show tn ss q.1::tn ss q.2::qu (r.map (nmP ss))=tn ss q.1::tn ss q.2::(qaR r).map (tn ss);rw [ih]
  rw [e]
theorem ok_law44 (F:Fun K "law" "law" qcP f fd) (T:Txt K mg cc cw) (Uk:DefOk P w K mg base CX0 1 "_law_cell" ["_law_script","_law_k"] (spCe K)) (Uc:DefOk P w K mg base CX0 1 "_law_purse" ["_law_cell_here"] spPu) (kW:DefOk P w K mg base CX0 1 "_law_take" ["_law_purse_here","_law_many_here"] spTkP)
  (Ul:DefOk P w K mg base CX0 2 "_law_many" ["_law_purse_here","_law_most"] spMyP) (Ud:DefOk P w K mg base CX0 2 "_law_names" ["_law_purse_here","_law_many_here"] spNmJ) (Um:DefOk P w K mg base CX0 2 "_law_ties" ["_law_purse_here","_law_many_here"] spTsJ)
  (Uo:DefOk P w K mg base CX0 7 "_law_made" ["_law_names_here","_law_ties_here"] (spMdJ cw)) (Up:DefOk P w K mg base CX0 1 "_law_bits" ["_law_many_here","_law_ties_here"] spBtJ) (Uq:DefOk P w K mg base CX0 2 "_law_some" ["_law_purse_here","_law_many_here","_law_thin"] spSmJ) (ud:DefOk P w K mg base CX0 2 "_law_lack" ["_law_names_here","_law_bits_here","_law_bar"] spLkJ)
  (u4:DefOk P w K mg base CX0 19 "paper_of" ["web"] (spPa cw)) (uR:DefOk P w K mg base CX0 3 "_law_fitting" ["_law_purse_here","_law_ties_here"] spFtJ) (Uu:DefOk P w K mg base CX0 16 "_law_one" ["_law_purse_here","_law_web","_law_names_here","_law_bits_here","_law_pairs","_law_gone"] (spOnJ cw)):FnOk P w K mg base CX0 20 f fd ["_law_script"] (spLaw K):=by
 refine F.ok Ki fun _ _ _ _ H vs Q E hr h=>?_
 ·obtain ⟨a,nz,rfl,hS,hlen,q⟩:=h;have hu:=jP hr;refine ⟨_,(qc (ji yV rfl (qQ (K:=K) rfl (qx (j3 (K:=K) rfl) (jf (qc2 (K:=K) rfl) (pv 0) jz (jk qh)) (qM (qa (qk Uk (hmR hr) qw (qa (pv 0) (qa qh qd))) qd)))) (qq (i:=1) Ki.nd rfl (yE rfl))
 (qc (qj (i:=2) Ki.nd rfl (yE rfl) (qk Uc (hmR hr) qw (qa (pv 1) qd)))
 (qc (qj (i:=3) Ki.nd rfl (yE rfl) (qk Ul (hmR hr) qw (qa (pv 2) (qa qh qd))))
 (qc (qj (i:=4) Ki.nd rfl (Xw rfl) (qk Ud (hmR hr) qw (qa (pv 2) (qa (pv 3) qd))))
 (qc (qj (i:=5) Ki.nd rfl (yE rfl) (qk Um (hmR hr) qw (qa (pv 2) (qa (pv 3) qd))))
 (qc (qj (i:=6) Ki.nd rfl (yE rfl) (qk Up (hmR hr) qw (qa (pv 3) (qa (pv 5) qd))))
 (qc (qj (i:=7) Ki.nd rfl (yE rfl) (qk Uo (hmR hr) qw (qa (pv 4) (qa (pv 5) qd))))
 (qc (qj (i:=8) Ki.nd rfl (yE rfl) (pv 3))
 (qc (qj (i:=9) Ki.nd rfl (yE rfl) (qp (jI (K:=K) rfl) rfl T.b_len YA (qa (qr (qt (K:=K) rfl hu) (qk u4 (hmR hr) qw (qa (pv 7) qd)) qh (fun _ _=>rfl)) qd)))
 (qe (ji yV rfl (js rfl T.b_range (qa qh qd)) (qq (i:=10) Ki.nd rfl (yE rfl))
 (qc (qj (i:=11) Ki.nd rfl (yE rfl) (qk uR (hmR hr) qw (qa (pv 2) (qa (pv 5) qd))))
 (qc (qj (i:=12) Ki.nd rfl (yE rfl) (qk Uq (hmR hr) qw (qa (pv 2) (qa (pv 3) (qa (qx (j3 (K:=K) rfl) qh (qk kW (hmR hr) qw (qa (pv 2) (qa qh qd)))) qd)))))
 (qc (qT (je (qZ (qk Uu (hmR hr) qw (qa (pv 2) (qa (pv 7) (qa (pv 4) (qa (pv 6) (qa (pv 11) (qa (pv 12) qd))))))))) (qe (qm za)) qv)
 (qc (qj (i:=8) Ki.nd rfl (yE rfl) (qp (call_min2 rfl) rfl T.b_min boot_min (qa (pv 8) (qa (qx qcV (qx qbl (pv 3) (qk ud (hmR hr) qw (qa (pv 4) (qa (pv 6) (qa (jg (sc:=qg qcP) (XN:=["_law_script","_law_cell_here","_law_purse_here","_law_many_here","_law_names_here","_law_ties_here","_law_bits_here","_law_web","_law_most","_law_best","_law_k","_law_pairs","_law_gone"]) ["_law_k","_law_names_here"] 1 [4] rfl rfl rfl (by decide +kernel) rfl (by decide +kernel)
  (qQ (K:=K) rfl (pv 12)) (fun _ _ _ _=>(qq (i:=0) (show (["_law_k","_law_names_here"]:List Str).Nodup by decide +kernel) rfl (yE rfl))) qS
  (fun _ _ _ _=>j0)
  (fun _ _ _ _=>(qr (qt (K:=K) rfl hu) (pv 1) (pv 0) (fun _ _=>rfl)))) qd))))) qh) qd))))
 (qe (qT (je (qdp qfg qfg (qp (jI (K:=K) rfl) rfl T.b_len YA (qa (pv 11) qd)) (pv 9) (pv 8))) (qe (qm za)) qv)))))))))))))))))
 (qe (qm za))),?_⟩
  ext;refine .inl ⟨a,_,rfl,hS,fun k hk0=>?_⟩
  obtain ⟨nt,ent,hnt⟩:∃ nt:List Int,qb0 (nz.map V.int) none (some 6)=nt.map V.int/\nt.length<=6:=by
   have:=zT (nz.map V.int) 6;rw [show ((6:Nat):Int)=6 from rfl] at this;exact ⟨nz.take 6,by rw [this,kQ],by rw [yL];omega⟩
  rw [ent];have s1:=qF (Sr H) (o:=.lst (nt.map V.int)) hk0;have hk1:upd H k (.lst (nt.map V.int)) k=some (.lst (nt.map V.int)):=qb;generalize upd H k (.lst (nt.map V.int))=H1 at s1 hk1;ext;refine ⟨a,nz,6,rfl,s1.seq hS,by decide,fun c8=>?_⟩;ext;refine ⟨by show 1<=sizeLine;decide,fun k2 hk20=>?_⟩;have s12:=qF (Sr H1) (o:=.lst [.int c8]) hk20;have hk2:upd H1 k2 (.lst [.int c8]) k2=some (.lst [.int c8]):=qb;generalize upd H1 k2 (.lst [.int c8])=H2 at s12 hk2;refine .inl ⟨k,k2,_,_,rfl,rfl,s12 _ _ hk1,hk2,by rw [ya];exact yX (qi (by simp only [yA,YM];omega)),fun lc hlc=>?_⟩;have ecl:nt.map V.int++[.int c8]=(nt++[c8]).map V.int:=by rw [yu];rfl
  rw [ecl];have e3:upd H2 lc (.lst ((nt++[c8]).map V.int)) lc=some (.lst ((nt++[c8]).map V.int)):=qb;generalize upd H2 lc (.lst ((nt++[c8]).map V.int))=H3 at e3;generalize nt++[c8]=cs at e3;refine .inl ⟨⟨_,.of e3⟩,qV (xs:=cs.map V.int) (fun i σ J=>L2.Same H3 J/\∃ y1 y2 y3 y4 y5 y6 y7 y8 y9 y10 y11 y12,σ=[some (.ref a),y1,y2,y3,y4,y5,y6,y7,y8,y9,y10,y11,y12]) ⟨L2.Same.refl H3,_,_,_,_,_,_,_,_,_,_,_,_,rfl⟩ (fun i σ J _ hp=>.of (hp.1 _ _ e3)) (fun i y σ J hy hp=>?_) fun σ J hp=>?_⟩
  ·obtain ⟨sJ,y1,y2,y3,y4,y5,y6,y7,y8,y9,y10,y11,y12,rfl⟩:=hp;rw [yd] at hy;obtain ⟨c,hc,rfl⟩:=yn.mp hy;ext;refine ⟨c,rfl,fun p J1 sJ1 hp0 hP1=>?_⟩;have hp3:H3 p=none:=sJ.free hp0;have b31:But p H3 J1:=fun c o _ e=>sJ1 c o (sJ c o e);ext;refine ⟨p,14,rfl,hP1,by decide,fun m J2 hm b2 hP2=>?_⟩;ext;refine ⟨p,m,rfl,hP2,hm,fun n ss J3 b3 hP3 hn0 hnp hn3 hO hsl=>?_⟩;subst hsl;ext;refine ⟨p,ss.length,rfl,hP3,hm,fun t ts TI J4 b4 hP4 ht0 htp hI hT=>?_⟩;ext;refine ⟨t,ss.length,ts,TI,rfl,hm,hI,hT,fun bb bs J5 s5 hbb0 hbb hBt=>?_⟩;have hn5:=s5 _ _ (b4 _ _ hnp hn3);have hP5:=hP4.same s5;ext;refine ⟨n,t,ss,ts,TI,rfl,hn5,hO,hI.same s5,hT,fun x ns J6 s6 hx0 hW hWt=>?_⟩;have hWP:WebP (fun z=>z=p) cw J6 x ss ns:=hW.apart (fun z=>by obtain ⟨u,v,w,e,_⟩:=hP5;rw [z,e] at hx0;cases hx0) (fun z e=>by subst e;obtain ⟨u,v,w,e,_⟩:=hP5;rw [e];exact fun z=>by cases z);have L6:LW cw p n x bb ss ns bs TI J6:=⟨hP5.same s6,s6 _ _ hn5,hnp,hWP,s6 _ _ hbb,hP4.apart hbb0,hWt.adj,hO,hT,hBt⟩;have hI6:=hI.same (s5.trans s6);have b36:But p H3 J6:=(((b31.trans7 b2).trans7 b3).trans7 b4).trans7 fun c o _ e=>s6 c o (s5 c o e);ext;refine ⟨x,ss,ns,_,rfl,hWt,fun t9 l9 a9 ls S rs rs' J7 s7 et7 hP7 hG7 hM7 _ _ _=>?_⟩;have L7:=L6.same s7;have hI7:=hI6.same s7;have b37:But p H3 J7:=b36.trans7 fun c o _ e=>s7 c o e;ext;refine .inl (qat et7 (v:=.ref l9) (qy (j:=0) rfl) ?_);ext;refine zd hP7.1 ?_;rw [ya,hP7.2.len];have hrl:rs.length<=30:=hG7.few;have h2r:2 * rs.length<=ss.length:=by have:=hG7.cnt hO.nd;have:=qcN (f:=pt rs) (ss:=ss);omega
   ext;obtain ⟨LI,hLI⟩:∃ LI:Nat->L2.St->Hp->Prop,LI=fun i σ J=>But p J7 J/\Pu J p/\∃ (M:Int) (y10 y11 y12:Option V),σ=[some (.ref a),some (.int c),some (.ref p),some (.int (ss.length:Int)),some (.ref n),some (.ref t),some (.ref bb),some (.ref x),some (.int M),some (.int (rs.length:Int)),y10,y11,y12]/\(rs.length:Int)<=M:=⟨_,rfl⟩;refine ⟨6,rfl,by decide,by decide,zw (lo:=0) (n:=6) LI (by rw [hLI];exact ⟨fun c o _ e=>e,L7.pu,_,_,_,_,rfl,by omega⟩) (fun i σ J hi hp=>?_) fun σ J hp=>?_⟩
   ·rw [hLI] at hp;obtain ⟨bJ,hPJ,M,y10,y11,y12,rfl,hM⟩:=hp;have LJ:=L7.but bJ hPJ;ext;refine ⟨p,t,ts,ss.length,TI,rfl,hPJ,hI7.butJ bJ L7.pu htp,htp,hT,fun pr zs J8 b8 hP8 hprp hZ hzi hzn hz8=>?_⟩;ext;refine ⟨p,5,rfl,hP8,by decide,by decide,fun d J9 hd b9 hP9=>?_⟩;ext;have ed:(1:Int) + (d:Int)=((1 + d:Nat):Int):=by omega
    rw [ed];refine ⟨p,ss.length,1 + d,rfl,hP9,hm,by omega,by omega,fun g gs G1 b10 hPG hg0 hgp hg hnd hlt=>?_⟩;have b8G:But p J8 G1:=b9.trans7 b10;have LG:=(LJ.but b8 hP8).but b8G hPG
    have hPB:PB p pr g ss.length TI zs gs G1:=by
     have k:∀ {c:Addr} {q:Nat×Nat},J8 c=some (iT q)->c≠p:=fun ec z=>by obtain ⟨x,y,w,e,_⟩:=hP8;rw [z,e] at ec;cases ec
     exact ⟨⟨b8G _ _ hprp hZ.1,fun z hz=>b8G _ _ (k (hZ.2 z hz)) (hZ.2 z hz)⟩,hprp,hzi,hzn,hz8,hg,hgp,hnd,hlt⟩
    have B:BarJ ss TI bs gs:=⟨hO,hT,hBt,hnd,hlt⟩;have hgf:=B.few;ext;refine ⟨p,x,n,bb,pr,g,ss,ns,bs,gs,TI,zs,rfl,LG,hPB,fun G2 bG2 hPG2=>?_⟩;have LG2:=LG.but bG2 hPG2;have hPB2:=hPB.but bG2 LG.pu;have bJ2:But p J7 G2:=((bJ.trans7 b8).trans7 b8G).trans7 bG2;ext;refine yq ?_;ext;refine .inl ⟨⟨_,.of hPB2.g⟩,qK (xs:=gs.map iV) (fun i ys J=>J=G2/\ys=((gs.take i).map (tn ss)).map V.str) ⟨rfl,rfl⟩ (fun i ys J _ hp=>by rw [hp.1];exact .of hPB2.g) (fun i y ys J hy hp=>?_) fun ys J hp=>?_⟩
    ·obtain ⟨rfl,rfl⟩:=hp;rw [yd] at hy;obtain ⟨k,hk,rfl⟩:=yn.mp hy;ext;refine zN ?_;ext;refine qbK LG2.nm (hlt k (ye hk)) ?_;exact ⟨by rw [ya,ya,yL];exact qi (by omega),rfl,by rw [yH,hk,yu,yu];rfl⟩
    ·obtain ⟨rfl,rfl⟩:=hp;rw [show (gs.map iV).length=gs.length from ya _,yM];refine ⟨by rw [ya,ya];exact yX (qi (by omega)),fun a0 ha0=>?_⟩;have s8:=qF (Sr J) (o:=.lst ((gs.map (tn ss)).map V.str)) ha0;have ea:upd J a0 (.lst ((gs.map (tn ss)).map V.str)) a0=some (.lst ((gs.map (tn ss)).map V.str)):=qb;generalize upd J a0 (.lst ((gs.map (tn ss)).map V.str))=G3 at s8 ea;have LG3:=LG2.same s8;ext;refine ⟨n,bb,a0,ss,TI,bs,gs,rfl,LG3.nm,LG3.bt,B,ea,fun G4 s9=>?_⟩;have s89:=s8.trans s9;have hw:=qfd B hG7;ext;refine vI ⟨by decide,by decide⟩ ?_;ext;refine ⟨_,_,rfl,?_⟩;ext;refine zd (s89 _ _ hPB2.z.1) ?_;rw [ya]
     have hzl:zs.length<=rs.length:=by
      have hPI:∀ q∈zs.map Prod.snd,q∈TI:=fun q hq=>by obtain ⟨z,hz,rfl⟩:=yQ.mp hq;exact hzi z hz
      have:=qfe hWt.ir hO.nd hG7 hM7 ((NdP.all hO.nd hT hPI).go hO.nd hT hPI hzn (by rw [ya];exact hz8) (kg _))
      rwa [ya,ya] at this
     generalize hV:(if ((ss.length:Int) - ((odJ bs gs ss.length:Nat) - (gs.length:Nat))) / 2 < M then ((ss.length:Int) - ((odJ bs gs ss.length:Nat) - (gs.length:Nat))) / 2 else M)=M2;have hM2:(rs.length:Int)<=M2:=by rw [<- hV];split<;>omega
     ext;rw [yG (show (zs.length:Int)<=(rs.length:Int) by omega)];refine zN ?_;ext;rw [yG hM2];refine yq ?_;ext;rw [hLI];exact ⟨bJ2.trans7 fun c o _ e=>s89 c o e,hPG2.same s89,M2,_,_,_,rfl,hM2⟩
   ·rw [hLI] at hp;obtain ⟨bJ,hPJ,M,y10,y11,y12,rfl,hM⟩:=hp;ext;exact ⟨fun c o e=>bJ _ _ (fun z=>by rw [z,hp3] at e;cases e) (b37 c o (fun z=>by rw [z,hp3] at e;cases e) e),_,_,_,_,_,_,_,_,_,_,_,_,rfl⟩
  ·obtain ⟨sJ,y1,y2,y3,y4,y5,y6,y7,y8,y9,y10,y11,y12,rfl⟩:=hp;ext;exact q J
end
theorem all_mk {l:W.OpenLaw} {w:World} {h:Heap} {mg:Str->Option Value} {fa Cw Cf :Addr} {ty0 ty1 ty2:Tok} (X:K.In h) (G:h.Ns mainGlobals mg) (hfa:mg "law"=some (.ref fa))
  (Cw_:W.nsIn K mainGlobals "Web"=some (some (.ref Cw)))
  (Cf_:W.nsIn K mainGlobals "Forest"=some (some (.ref Cf)))
  (vA:FG K "are_pairs" zI)
  (U5:FG K "partners_in" j5)
  (vf:FG K "told_pairs" jV)
  (v9:FG K "singles" zY)
  (Vv:FG K "is_row" qa9)
  (UE:FG K "are_unlike_places" jh)
  (UT:FG K "goes_by_turns" qU)
  (vK:FG K "can_turn" qal)
  (Vw:FG K "turned" qaL)
  (vL:FG K "greatest" qam)
  (UU:FG K "greatest_from" jF)
  (Wi:FG K "sorts" qcf)
  (vM:FG K "word_for" zB)
  (Wj:FG K "loose" qcg)
  (Wq:FG K "held" qdO)
  (U6:FG K "places_with" jH)
  (UV:FG K "pieces_beside" jG)
  (vg:FG K "odd_pieces" jW)
  (Va:FG K "lack_of" qaQ)
  (vN:FG K "paper_of" qan)
  (Wk:FG K "shows" qch)
  (Vx:FG K "is_bar" qbi)
  (Vb:FG K "is_name" zU)
  (Vc:FG K "has_bit" qaG)
  (vO:FG K "is_place" qah)
  (UK:FG K "are_two_places" jx)
  (vh:FG K "numbers_of" zh)
  (Vd:FG K "near_of" qaI)
  (U1:FG K "piece_around" jQ)
  (Vy:FG K "_law_cell" qbb)
  (Ve:FG K "_law_purse" qaM)
  (Vz:FG K "_law_take" qbc)
  (Vf:FG K "_law_names" zW)
  (VA:FG K "_law_ties" qbe)
  (VB:FG K "_law_many" qbd)
  (VC:FG K "_law_made" qbf)
  (VD:FG K "_law_bits" qbg)
  (vP:FG K "_law_pieces" j9)
  (VE:FG K "_law_some" qaO)
  (VF:FG K "_law_room" qaN)
  (Vg:FG K "_law_named" qaS)
  (VG:FG K "_law_lack" qao)
  (vm:FG K "_law_shuffled" zt)
  (vD:FG K "_law_fitting" zK)
  (Wl:FG K "_law_one" qbG)
  (Wu:FG K "law" qcP)
  (WT:FM K Cw "__init__" "Web.__init__" qai)
  (vQ:FM K Cw "places" "Web.places" zl)
  (VH:FM K Cw "ties" "Web.ties" qak)
  (U7:FM K Cw "has_place" "Web.has_place" jB)
  (vE:FM K Cw "has_tie" "Web.has_tie" j4)
  (U8:FM K Cw "number_of" "Web.number_of" jC)
  (vR:FM K Cw "beside" "Web.beside" zm)
  (UW:FM K Cw "bits_beside" "Web.bits_beside" jp)
  (VI:FM K Cw "tied" "Web.tied" qaj)
  (vS:FM K Cw "pieces" "Web.pieces" zo)
  (vn:FM K Cw "names_in" "Web.names_in" jv)
  (vF:FM K Cw "without" "Web.without" jq)
  (U9:FM K Cf "__init__" "Forest.__init__" j7)
  (VJ:FM K Cf "row" "Forest.row" zr)
  (vo:FM K Cf "reached" "Forest.reached" jj)
  (Vh:FM K Cf "grow" "Forest.grow" j6)
  (vT:FM K Cf "reach" "Forest.reach" jR)
  (UL:FM K Cf "look_around" "Forest.look_around" jd)
  (UF:FM K Cf "bring_together" "Forest.bring_together" qH)
  (UA:FM K Cf "bases_down_from" "Forest.bases_down_from" qO)
  (UM:FM K Cf "reach_round" "Forest.reach_round" jc)
  (Vi:FM K Cf "fold" "Forest.fold" jE)
  (w1:W.plainGet K Cw Str.empty=true)
  (w2:W.hasDictIn K Cw=true)
  (w3:W.plainOver K Cw=true)
  (w4:W.findIn K (.ref Cw) "__setattr__"=some (some (.builtin "object.__setattr__")))
  (w5:W.makesIn K Cw=true)
  (w6:W.keepIn K (.ref Cw)=true)
  (w7:W.findIn K (.ref Cw) "numbers"=some none)
  (w8:W.findIn K (.ref Cw) "order"=some none)
  (w9:W.findIn K (.ref Cw) "near"=some none)
  (pw1:W.plainGet K Cf Str.empty=true)
  (pw2:W.hasDictIn K Cf=true)
  (pw3:W.plainOver K Cf=true)
  (pw4:W.findIn K (.ref Cf) "__setattr__"=some (some (.builtin "object.__setattr__")))
  (pw5:W.makesIn K Cf=true)
  (pw6:W.keepIn K (.ref Cf)=true)
  (pf0:W.findIn K (.ref Cf) "board"=some none)
  (pf1:W.findIn K (.ref Cf) "partners"=some none)
  (pf2:W.findIn K (.ref Cf) "rows"=some none)
  (pf3:W.findIn K (.ref Cf) "parents"=some none)
  (pf4:W.findIn K (.ref Cf) "bases"=some none)
  (pf5:W.findIn K (.ref Cf) "rings"=some none)
  (pf6:W.findIn K (.ref Cf) "waiting"=some none)
  (pf7:W.findIn K (.ref Cf) "longer"=some none)
  (zz0:W.nsIn K mainGlobals "zip"=some none)
  (zsum:W.nsIn K mainGlobals "sum"=some none)
  (zany:W.nsIn K mainGlobals "any"=some none)
  (z0:W.nsIn K mainGlobals "len"=some none)
  (z1:W.nsIn K mainGlobals "int"=some none)
  (z2:W.nsIn K mainGlobals "enumerate"=some none)
  (z3:W.nsIn K mainGlobals "all"=some none)
  (z4:W.nsIn K mainGlobals "max"=some none)
  (z5:W.nsIn K mainGlobals "min"=some none)
  (z6:W.nsIn K mainGlobals "isinstance"=some none)
  (z7:W.nsIn K mainGlobals "bool"=some none)
  (z8:W.nsIn K mainGlobals "str"=some none)
  (z9:W.nsIn K mainGlobals "range"=some none)
  (z10:W.nsIn K mainGlobals "list"=some none)
  (z11:W.nsIn K mainGlobals "tuple"=some none)
  (u0:W.nsIn K mainGlobals "LONGEST_NAME"=some (some (.int 6 ty0)))
  (u1:W.nsIn K mainGlobals "MOST_PLACES"=some (some (.int 14 ty1)))
  (u2:W.nsIn K mainGlobals "MOST_TIES"=some (some (.int 30 ty2))) :
  ∃ fd:FuncData,(∀ (s:Shared) (v:Value),BindsTo s fd ⟨[v],[]⟩ [("_law_script",v)])/\∀ base:Heap,K.In base->base.Ns mainGlobals mg->FnOk l.prog w K mg base CX0 20 fa fd ["_law_script"] (spLaw K):=by
 obtain ⟨_,_,vG,VZ⟩:=vA;obtain ⟨_,_,va,V0⟩:=U5;obtain ⟨_,_,vp,V1⟩:=vf;obtain ⟨_,_,Vj,V2⟩:=v9;obtain ⟨_,_,VL,V3⟩:=Vv;obtain ⟨_,_,UG,V4⟩:=UE;obtain ⟨_,_,UX,V5⟩:=UT;obtain ⟨_,_,vV,V6⟩:=vK;obtain ⟨_,_,VM,V7⟩:=Vw;obtain ⟨_,_,vW,V8⟩:=vL;obtain ⟨_,_,UY,V9⟩:=UU;obtain ⟨_,_,Wm,wa⟩:=Wi;obtain ⟨_,_,vX,wc⟩:=vM;obtain ⟨_,_,Wn,we⟩:=Wj;obtain ⟨_,_,Wr,wf⟩:=Wq;obtain ⟨_,_,vb,wg⟩:=U6;obtain ⟨_,_,UZ,wj⟩:=UV;obtain ⟨_,_,vq,wm⟩:=vg;obtain ⟨_,_,Vk,wq⟩:=Va;obtain ⟨_,_,vY,wu⟩:=vN;obtain ⟨_,_,Wo,wv⟩:=Wk;obtain ⟨_,_,VN,ww⟩:=Vx;obtain ⟨_,_,Vl,wy⟩:=Vb;obtain ⟨_,_,Vm,wz⟩:=Vc;obtain ⟨_,_,vZ,wA⟩:=vO;obtain ⟨_,_,UO,wB⟩:=UK;obtain ⟨_,_,vv,wC⟩:=vh;obtain ⟨_,_,Vn,wD⟩:=Vd;obtain ⟨_,_,U2,wE⟩:=U1;obtain ⟨_,_,VO,wF⟩:=Vy;obtain ⟨_,_,Vo,wG⟩:=Ve;obtain ⟨_,_,VP,wH⟩:=Vz;obtain ⟨_,_,Vp,wI⟩:=Vf;obtain ⟨_,_,VQ,wJ⟩:=VA;obtain ⟨_,_,VR,wK⟩:=VB;obtain ⟨_,_,VS,wL⟩:=VC;obtain ⟨_,_,VT,wM⟩:=VD;obtain ⟨_,_,v6,wN⟩:=vP;obtain ⟨_,_,VU,wO⟩:=VE;obtain ⟨_,_,VV,wP⟩:=VF;obtain ⟨_,_,Vq,wQ⟩:=Vg;obtain ⟨_,_,VW,wR⟩:=VG;obtain ⟨_,_,vw,wS⟩:=vm;obtain ⟨_,_,vH,wT⟩:=vD;obtain ⟨_,_,Wp,wU⟩:=Wl;obtain ⟨_,_,Ww,wV⟩:=Wu;obtain ⟨_,_,WV,WW,Ws⟩:=WT;obtain ⟨_,_,Wx,Wy,wW⟩:=vQ;obtain ⟨_,_,Wz,WA,wX⟩:=VH;obtain ⟨_,_,WB,WC,wY⟩:=U7;obtain ⟨_,_,WD,WE,wZ⟩:=vE;obtain ⟨_,_,WF,WG,Wa⟩:=U8;obtain ⟨_,_,WH,WI,Wc⟩:=vR;obtain ⟨_,_,WJ,WK,Wd⟩:=UW;obtain ⟨_,_,WL,WM,We⟩:=VI;obtain ⟨_,_,WN,WO,Wf⟩:=vS;obtain ⟨_,_,WP,WQ,Wg⟩:=vn;obtain ⟨_,_,WR,WS,Wh⟩:=vF;obtain ⟨_,_,vc,ve,UD⟩:=U9;obtain ⟨_,_,VX,VY,vx⟩:=VJ;obtain ⟨_,_,vy,vz,UJ⟩:=vo;obtain ⟨_,_,Vr,Vs,U3⟩:=Vh;obtain ⟨_,_,v7,v8,U0⟩:=vT;obtain ⟨_,_,UP,UQ,Uy⟩:=UL;obtain ⟨_,_,UH,UI,Ux⟩:=UF;obtain ⟨_,_,UB,UC,Uw⟩:=UA;obtain ⟨_,_,UR,US,Uz⟩:=UM;obtain ⟨_,_,Vt,Vu,U4⟩:=Vi;have e:=hfa.symm.trans (W.mg_of X G Ww);cases e;have wcl:Cls K Cw:=⟨w1,w2,w3,w4⟩;have pcl:Cls K Cf:=⟨pw1,pw2,pw3,pw4⟩
 have pfa:∀ a∈fAtt,NoAttr K Cf a:=fun a ha=>by
  unfold fAtt at ha;simp only [yB,yY,YB] at ha;rcases ha with rfl | rfl | rfl | rfl | rfl | rfl | rfl | rfl<;>assumption
 have T:Txt K mg (fun i=>Cf) Cw:=⟨YG X G z0,
  YG X G z1,
  YG X G z2,
  YG X G z3,
  YG X G z4,
  YG X G z5,
  YG X G z6,
  YG X G z7,
  YG X G z8,
  YG X G z9,
  YG X G z10,
  YG X G z11,
  ⟨ty0,W.mg_of X G u0⟩,
  ⟨ty1,W.mg_of X G u1⟩,
  ⟨ty2,W.mg_of X G u2⟩,
  wcl,
  w7,
  w8,
  w9,
  W.mg_of X G Cw_,
  W.mg_of X G Cf_,
  pcl,
  pfa,
  YG X G zz0,
  YG X G zsum,
  YG X G zany⟩
 obtain ⟨oc,od,kV,doc,pm,an,cd,ct,sl,rfl,lk,hc⟩:=wV.ex;refine ⟨W.fnOf "law" "law" (qaq qcP) (zR qcP) (qg qcP) .none kV doc pm an cd ct,fun s v=>.of_eq rfl,fun base _ _=>?_⟩;have fg:=@fg_mk l.prog w K mg base h;have fm:=@fm_mk l.prog w K mg base;have fw:=@fw_mk l.prog w K mg base h;have d_name:=fg X G Vl wy (ok_name wy T);have d_place:=fg X G vZ wA (ok_place wA d_name);have d_two:=fg X G UO wB (ok_two wB T d_place);have d_bit:=fg X G Vm wz (ok_bit wz);have d_nums:=fg X G vv wC (ok_nums wC T d_name);have d_near:=fg X G Vn wD (ok_near wD T d_two d_bit);have q_web:MakeOk l.prog w K mg base CX0 5 Cw "Web" ["self","names","ties"] (spWeb Cw):=fw X G Cw_ w5 w6 WV WW Ws (ok_web Ws T d_nums d_near);have m_has:=fm wcl WB WC wY (ok_has wY T d_place);have m_num:=fm wcl WF WG Wa (ok_num Wa T m_has);have m_bb:=fm wcl WJ WK Wd (ok_bb Wd T m_num);have m_nin:=fm wcl WP WQ Wg (ok_nin Wg T d_bit);have m_bs:=fm wcl WH WI Wc (ok_bs Wc T m_bb m_nin);have m_tied:=fm wcl WL WM We (ok_tied We T m_bb m_num d_bit);have m_pls:=fm wcl Wx Wy wW (ok_pls wW T);have m_ts:=fm wcl Wz WA wX (ok_ts wX T m_bs);have m_ht:=fm wcl WD WE wZ (ok_ht wZ T d_two m_tied);have d_pc:=fg X G U2 wE (ok_pc wE T d_bit);have m_pcs:=fm wcl WN WO Wf (ok_pcs Wf T d_bit d_pc m_nin);have m_wo:=fm wcl WR WS Wh (ok_wo Wh T m_num m_ts q_web);have d_ap:=fg X G vG VZ (ok_ap VZ T m_ht);have d_pn:=fg X G va V0 (ok_pn V0 T d_ap);have d_tp:=fg X G vp V1 (ok_tp V1 T d_pn m_ts);have d_ul:=fg X G UG V4 (ok_ul V4 T m_has);have d_gt:=fg X G UX V5 (ok_gt V5 T m_ht);have d_ir:=fg X G VL V3 (ok_ir V3 T d_pn d_ul d_gt);have d_ct:=fg X G vV V6 (ok_ct V6 T d_pn d_ir);have d_tu:=fg X G VM V7 (ok_tu V7 T d_pn m_ts d_ct);have p_re:=fm pcl v7 v8 U0 (ok_re U0 T);have p_bd:=fm pcl UB UC Uw (ok_bd Uw T);have p_rr:=fm pcl UR US Uz (ok_rr Uz T p_re);have p_fd:=fm pcl Vt Vu U4 (ok_fdF U4 T m_pls);have p_bt:=fm pcl UH UI Ux (ok_bt Ux T p_bd p_rr p_fd);have p_la:=fm pcl UP UQ Uy (ok_la Uy T m_bs p_bt p_re);have p_gw:=fm pcl Vr Vs U3 (ok_gw U3 T m_pls p_re p_la);have p_mk:MakeOk l.prog w K mg base CX0 10 Cf "Forest" ["self","web","pairs"] (spFi (fun i=>Cf) Cw):=fw X G Cf_ pw5 pw6 vc ve UD (ok_fi UD T d_pn p_gw);have p_row:=fm pcl VX VY vx (ok_fr vx T);have p_rch:=fm pcl vy vz UJ (ok_fd2 UJ T m_pls);have d_gf:=fg X G UY V9 (ok_gf V9 T d_tp p_mk p_row d_tu);have d_gr:=fg X G vW V8 (ok_gr V8 T d_gf);have d_lo:=fg X G Wn we (ok_lo we T d_gr p_mk p_rch);have d_wf:=fg X G vX wc (ok_wf wc T m_bs);have d_so:=fg X G Wm wa (ok_so wa T d_lo d_wf m_pls);have d_pw:=fg X G vb wg (ok_pw wg T d_so m_pls);have d_he:=fg X G Wr wf (ok_he wf T d_pw);have d_pap:=fg X G vY wu (ok_pa6 wu T d_gr d_he);have d_si:=fg X G Vj V2 (ok_si V2 T d_pn m_pls);have d_pb:=fg X G UZ wj (ok_pb wj T d_ul m_wo m_pcs);have d_od:=fg X G vq wm (ok_od wm T d_pb);have d_lk:=fg X G Vk wq (ok_lk wq T d_od);have d_shw:=fg X G Wo wv (ok_shw wv T d_ap d_ul d_si d_lk);have d_ib:=fg X G VN ww (ok_ib ww T d_gr d_shw);have d_tk:=fg X G VP wH (ok_tkp wH T);have d_lkJ:=fg X G VW wR (ok_lkJ wR T (fg X G VV wP (ok_rmJ wP T)) (fg X G v6 wN (ok_pjJ wN T)));have d_on:=fg X G Wp wU (ok_onJ wU T (fg X G Vq wQ (ok_ndJ wQ T d_tk)) d_lkJ d_lk d_shw d_ib) (hb:=fun _ _ _ _ _ _=>lN6 fun _ _ _ _ _ _=>rfl);have d_ft:=fg X G vH wT (ok_ftJ wT T d_tk (fg X G vw wS (ok_shJ wS T d_tk)));exact ok_law44 wV T (fg X G VO wF (ok_ce wF T)) (fg X G Vo wG (ok_pu wG T)) d_tk (fg X G VR wK (ok_my wK T d_tk)) (fg X G Vp wI (ok_nmJ wI T d_tk)) (fg X G VQ wJ (ok_tsJ wJ T d_tk)) (fg X G VS wL (ok_mdJ wL T q_web)) (fg X G VT wM (ok_btJ wM T)) (fg X G VU wO (ok_smJ wO T d_tk)) d_lkJ d_pap d_ft d_on
theorem walk {l:PySem.W.OpenLaw} {q:Program} {loose:List Str} {XP:(Str->Option Value)->Heap->Prop} {YP:World->Heap->Prop} {d:DefRec} {K:Params->yg} (hn:l.most=some 63) (hdf:d.params.defaults=[])
  (hY:∀ (w:World) (h:Heap),YP w h->(K w.params).In h)
  (F:∀ (w:World) (mg:Str->Option Value) (fa:Addr) (h:Heap),(K w.params).In h->h.Ns mainGlobals mg->mg d.name=some (.ref fa) ->
   ∃ fd:FuncData,(∀ (s:Shared) (u:Value),BindsTo s fd ⟨[u],[]⟩ [("_law_script",u)])/\∀ base:Heap,(K w.params).In base->base.Ns mainGlobals mg->FnOk l.prog w (K w.params) mg base CX0 20 fa fd ["_law_script"] (spLaw (K w.params))) :
  PySem.W.WalkO q loose XP YP l.row.toRowW d [] (fun f vs=>PySem.call f vs):=
 L2.walk_of (n:=63) (k:=20) (x:="_law_script") (CX:=fun _=>CX0) (sp:=fun w=>spLaw (K w.params)) hn (by decide) hdf ⟨rfl,by decide,by decide,rfl⟩ hY F (fun _ _ a ns hl _ hS=>⟨a,ns,rfl,hS,hl,fun _=>rfl⟩) fun _ _ _ _ _ z=>z
end K44
set_option maxRecDepth 100000 in
set_option maxHeartbeats 0 in
theorem PySem.Challenge.cw_onceroad_k44_whole_no_pairs_beat_bars_holds : PySem.Challenge.rw_onceroad_k44_whole_no_pairs_beat_bars.Holds := by
  w_on; o_law
  refine PySem.W.holds_open (q := K44.Q) (loose := []) (Xt := K44.Xt) (XP := PySem.W.XL K44.Q []) (Yf := PySem.W.Hook.obs K44.Hk) (Ya := PySem.W.Hook.val K44.Hk) (YP := PySem.W.Hook.says (PySem.W.kHook K44.Kf K44.ks K44.ks_eq)) (N := K44.NN) K44.hl (PySem.W.Hook.of K44.Hk) (PySem.W.Hook.keeps K44.Hk) (fun s e => PySem.W.xl_of s (Bool.and_eq_true_iff.mp e).1) PySem.W.XL.keeps (by rfl) (by rfl) (by rfl) (fun s e => PySem.W.recFacts_of (Bool.and_eq_true_iff.mp e).2) (by rfl) (by first | assumption | decide +kernel) (by decide +kernel) ⟨rfl, rfl, rfl, rfl, rfl, by decide +kernel⟩ ?hw ?hc
  (case hw => w_witness2)
  k_fill
  refine K44.walk (l := PySem.Challenge.rw_onceroad_k44_whole_no_pairs_beat_bars) rfl rfl (fun w h Y => PySem.W.kIn_of Y) ?F
  case F =>
    intro w mg fa h KX G hmg
    refine' K44.all_mk KX G hmg ?_ ?_ ?_ ?_ ?_ ?_ ?_ ?_ ?_ ?_ ?_ ?_ ?_ ?_ ?_ ?_ ?_ ?_ ?_ ?_ ?_ ?_ ?_ ?_ ?_ ?_ ?_ ?_ ?_ ?_ ?_ ?_ ?_ ?_ ?_ ?_ ?_ ?_ ?_ ?_ ?_ ?_ ?_ ?_ ?_ ?_ ?_ ?_ ?_ ?_ ?_ ?_ ?_ ?_ ?_ ?_ ?_ ?_ ?_ ?_ ?_ ?_ ?_ ?_ ?_ ?_ ?_ ?_ ?_ ?_ ?_ ?_ ?_ ?_ ?_ ?_ ?_ ?_ ?_ ?_ ?_ ?_ ?_ ?_ ?_ ?_ ?_ ?_ ?_ ?_ ?_ ?_ ?_ ?_ ?_ ?_ ?_ ?_ ?_ ?_ ?_ ?_ ?_ ?_ ?_ ?_ ?_ ?_ ?_ ?_ ?_
    any_goals first | k_is | decide
    any_goals first | k_is | decide | exact ⟨_, _, by k_is, L2.fun_mk (by k_is) (by k_is) (by k_is)⟩ | exact ⟨_, _, by k_is, by k_is, L2.fun_mk (by k_is) (by k_is) (by k_is)⟩ | exact ⟨_, _, _, _, _, _, _, _, _, _, _, _, _, _, _, by k_is⟩ | exact ⟨by k_is, by k_is, by k_is, by k_is, by k_is, by k_is, by k_is, by k_is⟩ | kernel_rfl | fail
