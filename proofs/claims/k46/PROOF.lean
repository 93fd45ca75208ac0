import PyProof.Rows.All
import Wide.All
import OpenK.AllK
import Wide.FinOn
import PyProof.EqAt
import PyProof.EqKinds
import PyProof.TupleCall
import Lean
import PySem.Challenge.RW_onceroad_k46_sorts_by_own_counts
set_option Elab.async false
set_option linter.all false
set_option maxRecDepth 100000
theorem ya {a b:Type} {as:List a} (f:a→b):(as.map f).length=as.length:=List.length_map f
theorem yb {a:Type} {l:List a} {i:Nat} (h:i<l.length):l[i]?=some l[i]:=List.getElem?_eq_getElem h
theorem yc {b:Type} {l:List b} {i:Nat} {a:b}:l[i]?=some a↔∃h:i<l.length,l[i]=a:=List.getElem?_eq_some_iff
theorem yd {a b:Type} {f:a→b} {l:List a} {i:Nat}:(l.map f)[i]?=l[i]?.map f:=List.getElem?_map
theorem ye {b:Type} {l:List b} {i:Nat} {a:b} (h:l[i]?=some a):a∈l:=List.mem_of_getElem? h
theorem yf {b:Type} {a:b} {l:List b} (h:a∈l):∃i:Nat,l[i]?=some a:=List.getElem?_of_mem h
noncomputable abbrev yg:=PySem.W.Frag
theorem yh (n:Nat):n≤n:=Nat.le_refl n
theorem yi {a b c:Nat} (h:a≤b) (k:b≤c):a≤c:=Nat.le_trans h k
theorem yj {a b c:Nat} (h:a<b) (k:b≤c):a<c:=Nat.lt_of_lt_of_le h k
theorem yk {p:Prop} [Decidable p] (h:decide p=true):p:=of_decide_eq_true h
theorem yl {p:Prop} [Decidable p] (h:¬p):decide p=false:=decide_eq_false h
theorem ym {c:Type} {a b:c} (h:some a=some b):a=b:=Option.some.inj h
theorem yn {c d:Type} {f:c→d} {x:Option c} {b:d}:x.map f=some b↔∃a,x=some a∧f a=b:=Option.map_eq_some_iff
theorem yo {b:Type} {a:b} {l:List b}:(a::l).Nodup↔a∉l∧l.Nodup:=List.nodup_cons
theorem yp {a:Type} {p:a→Bool} {as:List a} {x:a}:x∈as.filter p↔x∈as∧p x=true:=List.mem_filter
theorem yq {A B:Prop} (h:B):if false=true then A else B:=h
def yr:=@PySem.wpAny_bind
def yt:=@List.length_append
def yu:=@PySem.Heap.get?_push_of_some
def yv:=@List.mem_cons
def yw:=@PySem.wpAny_pure
def yx:=@List.size_toArray
def yy:=@if_neg
def yz:=@List.mem_cons_of_mem
def yA:=@List.mem_singleton
def yB:=@decide_eq_true
def yC:=@List.length_cons
def yD:=@List.mem_append
def yE:=@List.map_append
def yF:=@if_pos
def yG:=@List.not_mem_nil
def yH:=@PySem.Heap.lt_size
def yI:=@Nat.ne_of_lt
def yJ:=@List.getElem?_append_right
def yK:=@Or.inl
def yL:=@List.mem_append_right
def yM:=@List.take_add_one
def yN:=@List.mem_cons_self
def yO:=@List.mem_append_left
def yP:=@List.length_take
def yQ:=@decide_eq_true_iff
def yR:=@PySem.F.plainAttrs_list
def yS:=@List.take_length
def yT:=@List.filter_cons
def yU:=@PySem.PassesOwn.never
def yV:=@PySem.Heap.get?_push_size
def yW:=@List.length_filter_le
def yX:=@Bool.and_eq_true
def yY:=@Int.toNat_natCast
def yZ:=@List.getElem?_append_left
def Yb:=@List.mem_map
def Yc:=@Nat.le_of_lt
def Yd:=@List.append_nil
def Ye:=@PySem.F.slot_list_append
def Yg:=@PySem.F.type_list_append
def Yh:=@Ne.symm
def Yi:=@List.nodup_append
def Yj:=@Nat.ne_of_gt
def Yk:=@beq_iff_eq
def Yl:=@or_false
def Ym:=@List.append_assoc
def Yn:=@Bool.false_ne_true
def Yo:=@Nat.lt_of_le_of_lt
def Yp:=@List.filter_append
def Yq:=@List.append_of_mem
def Yr:=@List.getD_eq_getElem?_getD
def Ys:=@PySem.wpAny_holding
def Yt:=@List.contains_cons
def Yu:=@PyProof.Rows.callWith_type1
def Yv:=@List.idxOf_lt_length_of_mem
def Yw:=@Bool.eq_iff_iff
def Yx:=@beq_eq_false_iff_ne
def Yy:=@Nat.lt_irrefl
def Yz:=@List.all_eq_true
def YA:=@decide_eq_decide
def YB:=@PySem.Heap.get?_update_other
def YC:=@PySem.Heap.get?_update_self
def YD:=@List.length_reverse
def YE:=@PySem.W.mg_none_of
def YF:=@PySem.wpAny_mono
def YG:=@List.map_cons
def YH:=@PySem.wpAny_loadPart_at
def YI:=@Nat.zero_le
def YJ:=@Classical.byContradiction
def YK:=@List.filter_nil
def YL:=@PySem.sizeLine_eq
def YM:=@True.intro
def YN:=@List.length_replicate
def YO:=@PySem.W.looks_findIn
def YQ:=@Bool.false_eq_true
def YR:=@PyProof.Rows.boot_isinstance
def YS:=@List.length_range
def YT:=@List.mem_range
def YU:=@PySem.Heap.size_push
def YV:=@Option.isSome_iff_exists
def YW:=@PySem.F.slot_NoneType_eq
def YX:=@List.length_nil
def YY:=@List.getElem_idxOf
def YZ:=@List.any_eq_true
def Y3:=@PySem.F.excBase_ValueError
def Y4:=@Array.getElem?_eq_some_iff
def Y5:=@List.take_of_length_le
def Y6:=@Nat.testBit_two_pow
def Y7:=@PySem.wpAny_field
def Y8:=@PySem.wpAny_of_eq
def Y9:=@PySem.W.callWith_K
def xi:=@List.lookup_cons
def xj:=@List.length_erase_of_mem
def xk:=@Sum.inr.inj
def xl:=@List.getElem?_set_ne
def xm:=@List.filter_congr
def xn:=@List.dropLast_concat_getLast
def xo:=@Array.length_toList
def xp:=@List.replicate_succ
def xq:=@PySem.W.looks_mroIn
def xr:=@PySem.wpAny_isSubtype_exc
def xt:=@List.length_pos_of_mem
def xu:=@List.cons.inj
def xv:=@beq_self_eq_true
def xw:=@PySem.wpAny_Call_Name_kw
def xx:=@List.lookup_append
def xy:=@PySem.W.methodCall_KW
def xz:=@Array.getElem?_toList
def xA:=@List.pairwise_iff_getElem
def xB:=@Array.getElem?_eq_getElem
def xC:=@PySem.wpAny_passesOwn
def xD:=@List.length_set
def xE:=@List.find?_cons
def xF:=@Nat.le_antisymm
def xG:=@PySem.wpAny_truthy_bool
def xH:=@PySem.wpAny_newObj_type
def xI:=@PySem.codeAny_call_builtin
def xJ:=@PySem.boot_len
def xK:=@List.Pairwise.imp_of_mem
def xL:=@PyProof.Rows.slot_tuple_getitem
def xM:=@PySem.mem_of_lookup
def xN:=@PySem.W.any_some
def xO:=@List.getElem?_replicate
def xP:=@PySem.wpAny_getItem_str_slice
def xQ:=@List.getElem_mem
def xR:=@PySem.F.slot_list_index
def xS:=@Nat.le_add_right
def xT:=@List.mem_flatMap
def xU:=@List.length_tail
def xV:=@List.getElem?_set_self
def xW:=@PySem.wpAny_call
def xX:=@PySem.Calls.callWith_builtin
def xY:=@PySem.tupleKind_room_in1
def xZ:=@Array.getElem?_eq_none
def x0:=@Nat.zero_add
def Xa:=@List.getElem?_tail
def Xb:=@Int.emod_lt_of_pos
def Xc:=@if_false
def Xd:=@Prod.ext
def Xe:=@Int.natCast_pow
def Xf:=@List.range_succ
def Xg:=@Nat.testBit_and
def Xh:=@PySem.wpAny_standAt
def Xi:=@List.any_cons
def Xj:=@PyProof.Rows.boot_list
def Xk:=@List.mem_iff_getElem?
def Xl:=@List.flatten_cons
def Xm:=@Option.isSome_map
def Xn:=@Bool.not_eq_true'
def Xo:=@Nat.le_succ
def Xp:=@Nat.pow_lt_pow_right
def Xq:=@List.getLast?_append
def Xr:=@Nat.mod_two_eq_zero_or_one
def Xs:=@List.filterMap_cons
def Xu:=@PySem.F.plain_extend_loop
def Xv:=@PySem.Heap.SameBut.update
def Xw:=@List.flatMap_append
def Xx:=@List.getElem?_take_of_lt
def Xy:=@Prod.mk.injEq
def Xz:=@if_true
def XA:=@Bool.or_eq_true
def XB:=@Nat.two_pow_pos
def XC:=@Int.emod_nonneg
def XD:=@PySem.Calls.spliced_cons
def XE:=@Option.isSome_some
def XF:=@PySem.wpAny_callSpecial?_slot
def XG:=@decide_eq_false_iff_not
def XH:=@List.pairwise_singleton
def XI:=@PySem.F.type_list_index
def XJ:=@Nat.le_of_eq
def XM:=@PySem.Calls.spliced_nil
def XR:=@PySem.codeAny_mono
def XS:=@List.take_sublist
def XT:=@Or.inr
def XU:=@PySem.wpAny_pyIter_list
def XV:=@PyProof.Rows.bitAnd_m1
def XW:=@decide_eq_true_eq
def XY:=@PySem.wpAny_nextOf_list_item
def XZ:=@Nat.or_lt_two_pow
def X3:=@Nat.testBit_or
def X4:=@List.pairwise_map
def X5:=@Int.zero_add
def X6:=@PySem.F.slot_dict_get
def X7:=@Nat.lt_succ_self
def X8:=@PySem.wpAny_call_entry
def X9:=@PySem.Paired.length
def kc:=@List.all_cons
def ke:=@PySem.wpAny_attempt
def kf:=@PySem.Value.ref.inj
def kg:=@PySem.Calls.evalArgs_plain
def kh:=@Nat.pow_le_pow_right
def ki:=@List.mem_erase_of_ne
def kj:=@Nat.eq_of_testBit_eq
def kl:=@PySem.wpAny_execs_nil
def km:=@PySem.SeqAt.EqAt.same
def kn:=@Option.map_some
def ko:=@PySem.post_val_or_str
def kq:=@PySem.F.slot_zip_next
def kt:=@PySem.wpAny_updateSeq
def ku:=@List.all_append
def kx:=@PySem.W.plainGet_of
def ky:=@PySem.W.looks_clsIn
def kz:=@List.getElem?_range
def kA:=@List.getElem_of_mem
def kB:=@List.filter_eq_self
def kC:=@List.mem_map_of_mem
def kD:=@Bool.or_true
def kE:=@PySem.call_meets
def kF:=@Option.isSome_none
def kG:=@PySem.slot_list_getitem
def kH:=@PySem.Heap.get?_push_at
def kI:=@Nat.le_succ_of_le
def kJ:=@PySem.W.mg_of
def kK:=@Bool.or_false
def kL:=@PySem.W.mg_of
def kM:=@List.map_tail
def kN:=@Nat.min_le_right
def kO:=@List.length_drop
def kP:=@List.cons_append
def kQ:=@PySem.wpAny_askSetting
def kR:=@Nat.min_eq_right
def kS:=@PySem.wpAny_pyIter_zip
def kT:=@Nat.lt_of_not_le
def kU:=@List.cons_ne_nil
def kW:=@List.mem_reverse
def kX:=@Nat.lt_trans
def kY:=@List.all_map
def kZ:=@PySem.Txt.slice_le
def k7:=@Nat.sub_self
def k8:=@List.of_mem_zip
def k9:=@List.forIn_cons
def Ka:=@Nat.min_eq_left
def Kb:=@Nat.le_max_left
def Kc:=@Nat.testBit_xor
def Kd:=@List.forIn_nil
def Ke:=@Bool.not_false
def Kg:=@Int.one_mul
def Kh:=@decide_false
def Ki:=@Nat.sub_zero
def Kj:=@List.any_map
def Kk:=@not_or
namespace L2
open PySem PySem.Spec PyProof.Rows
noncomputable def qS (s:Stmt) (j:Nat):Stmt:=match s with
 | .ClassDef _ _ _ body _ _ _ _ _ _ _=>body.getD j (.Pass ⟨0,0,0,0⟩)
 | _=>.Pass ⟨0,0,0,0⟩
noncomputable def qah (s:Stmt):Arguments:=match s with
 | .FunctionDef _ a _ _ _ _ _ _ _ _=>a
 | _=>{ posonlyargs:=[],args:=[],vararg:=none,kwonlyargs:=[],kw_defaults:=[],kwarg:=none,defaults:=[] }
noncomputable def zt (s:Stmt):List Stmt:=match s with
 | .FunctionDef _ _ b _ _ _ _ _ _ _=>b
 | _=>[]
noncomputable def qg (s:Stmt):Scope:=match s with
 | .FunctionDef _ _ _ _ _ _ sc _ _ _=>sc
 | _=>{ kind:=.function,names:=[],isGenerator:=false,isCoroutine:=false }
end L2
namespace K46
open PySem L2 PyProof.Rows
noncomputable def top (i:Nat):Stmt:=PySem.Challenge.pw_onceroad_k46_sorts_by_own_counts.main.body.getD i (.Pass ⟨0,0,0,0⟩)
noncomputable abbrev js:Stmt:=qS (top 2) 0
noncomputable abbrev jN:Stmt:=qS (top 5) 0
noncomputable abbrev j6:Stmt:=top 35
noncomputable abbrev qax:Stmt:=top 40
noncomputable abbrev zo:Stmt:=top 41
noncomputable abbrev jt:Stmt:=top 42
noncomputable abbrev zg:Stmt:=top 43
noncomputable abbrev zY:Stmt:=qS (top 39) 0
noncomputable abbrev qay:Stmt:=top 44
noncomputable abbrev zi:Stmt:=qS (top 39) 1
noncomputable abbrev jk:Stmt:=qS (top 39) 4
noncomputable abbrev jl:Stmt:=qS (top 39) 6
noncomputable abbrev zj:Stmt:=qS (top 39) 7
noncomputable abbrev jm:Stmt:=qS (top 39) 8
noncomputable abbrev zZ:Stmt:=qS (top 39) 9
noncomputable abbrev jq:Stmt:=qS (top 39) 12
noncomputable abbrev qab:Stmt:=qS (top 39) 2
noncomputable abbrev zA:Stmt:=top 11
noncomputable abbrev jW:Stmt:=qS (top 39) 5
noncomputable abbrev jX:Stmt:=top 12
noncomputable abbrev jP:Stmt:=qS (top 15) 6
noncomputable abbrev qL:Stmt:=qS (top 15) 9
noncomputable abbrev qW:Stmt:=qS (top 15) 10
noncomputable abbrev jC:Stmt:=qS (top 15) 11
noncomputable abbrev qG:Stmt:=qS (top 15) 8
noncomputable abbrev qX:Stmt:=qS (top 15) 7
noncomputable abbrev jY:Stmt:=qS (top 15) 5
noncomputable abbrev jZ:Stmt:=qS (top 15) 0
noncomputable abbrev zk:Stmt:=qS (top 15) 1
noncomputable abbrev je:Stmt:=qS (top 15) 2
noncomputable abbrev jS:Stmt:=top 13
noncomputable abbrev jd:Stmt:=top 18
noncomputable abbrev qaZ:Stmt:=top 17
noncomputable abbrev qO:Stmt:=top 19
noncomputable abbrev qac:Stmt:=top 20
noncomputable abbrev qaA:Stmt:=top 21
noncomputable abbrev jD:Stmt:=top 24
noncomputable abbrev qad:Stmt:=top 23
noncomputable abbrev qa2:Stmt:=top 46
noncomputable abbrev qaB:Stmt:=top 47
noncomputable abbrev qa3:Stmt:=top 48
noncomputable abbrev qa4:Stmt:=top 51
noncomputable abbrev zP:Stmt:=top 49
noncomputable abbrev qa5:Stmt:=top 50
noncomputable abbrev qa6:Stmt:=top 52
noncomputable abbrev qa7:Stmt:=top 53
noncomputable abbrev qb6:Stmt:=top 27
noncomputable abbrev zr:Stmt:=top 28
noncomputable abbrev qb7:Stmt:=top 29
noncomputable abbrev qdw:Stmt:=top 30
noncomputable abbrev qdx:Stmt:=top 31
noncomputable abbrev jE:Stmt:=top 32
noncomputable abbrev qaD:Stmt:=top 54
noncomputable abbrev zR:Stmt:=top 26
noncomputable abbrev qaE:Stmt:=top 55
noncomputable abbrev qaf:Stmt:=top 56
noncomputable abbrev zS:Stmt:=top 57
noncomputable abbrev qaF:Stmt:=top 58
noncomputable abbrev zD:Stmt:=top 60
noncomputable abbrev qaG:Stmt:=top 61
noncomputable abbrev zT:Stmt:=top 59
noncomputable abbrev qc0:Stmt:=top 62
end K46
namespace Hd
open PySem PySem.W PySem.Calls PyProof.Rows
variable {p:Program} {α:Type}
noncomputable def qfx (c:String->Option Builtin) (p:Program) (w:World) (a:Nat) (b:Option Value):Nat->SharedT->Thread->Option SharedT
 | 0,_,_=>none
 | n+1,s,t=>match through t with
  | true=>some s
  | false=>match stepOk a b t with
   | false=>none
   | true=>match stepT (denote c) p w s t with
    | some (s',t')=>qfx c p w a b n s' t'
    | none=>none
theorem qe9 {d:String->Option Builtin} {w:World} {a:Nat} {b:Option Value}:∀ {n:Nat} {s s':SharedT} {t:Thread},qfx d p w a b n s t=some s'->topRun d p w a b n s.abs t=some s'.abs
 | 0,_,_,_,h=>by cases h
 | n+1,s,s',t,h=>by
  unfold qfx at h;unfold topRun
  cases e:through t with
  | true=>rw [e] at h;cases h;rfl
  | false =>
   rw [e] at h
   cases f:stepOk a b t with
   | false=>rw [f] at h;cases h
   | true =>
    rw [f] at h
    cases c:stepT (denote d) p w s t with
    | none=>rw [c] at h;cases h
    | some r=>obtain ⟨g,i⟩:=r;rw [c] at h;rw [stepT_spec c];exact qe9 h
noncomputable def qc1:List Obj->Nat->BT->BT
 | [],_,t=>t
 | o::r,n,t=>qc1 r (n+1) (t.ins n o)
noncomputable def qew (P:Params) (a:OsState):SharedT:=⟨qc1 (boot_heap P).objs.toList 0 .nil,(boot_heap P).objs.size,(boot_heap P).life,Array.mk [],boot_drawn,boot_toks,a⟩
theorem boot_abs (P:Params):absHeap (qc1 (boot_heap P).objs.toList 0 .nil) (boot_heap P).objs.size (boot_heap P).life=boot_heap P:=by kernel_rfl
noncomputable def qeJ (p q:Program) (Xt:Shared->Bool) {α:Type} (Yf:Shared->α) (N:Nat) (w:World) (a:OsState):=match (boot_heap w.params).isNs mainGlobals&&(Array.mk []:Array GenState).size==0 with
 | true=>(qfx treeTable p w (boot_heap w.params).objs.size ((boot_heap w.params).nsMap mainGlobals "__annotations__") N (qew w.params a) (topStub p)).bind fun s=>match staticsOk (importedModules p.main.body) (boot_heap w.params) s.abs.heap&&namesBound p s.abs.heap&&gensDone s.abs&&laidKept (boot_heap w.params) s.abs.heap with
   | true=>some (openSeen q [] (importedModules p.main.body) Xt true s.abs,Yf s.abs)
   | false=>none
 | false=>none
noncomputable def lookS (p:Program) (N:Nat) (w:World) (a:OsState):Option Shared:=match (boot_heap w.params).isNs mainGlobals&&(Array.mk []:Array GenState).size==0 with
 | true=>(qfx treeTable p w (boot_heap w.params).objs.size ((boot_heap w.params).nsMap mainGlobals "__annotations__") N (qew w.params a) (topStub p)).bind fun s=>match staticsOk (importedModules p.main.body) (boot_heap w.params) s.abs.heap&&namesBound p s.abs.heap&&gensDone s.abs&&laidKept (boot_heap w.params) s.abs.heap with
   | true=>some s.abs
   | false=>none
 | false=>none
theorem lookT_map (p q:Program) (Xt:Shared->Bool) (Yf:Shared->α) (N:Nat) (w:World) (a:OsState):qeJ p q Xt Yf N w a=(lookS p N w a).map fun s=>(openSeen q [] (importedModules p.main.body) Xt true s,Yf s):=by
 unfold qeJ lookS
 cases (boot_heap w.params).isNs mainGlobals&&(Array.mk []:Array GenState).size==0 with
 | false=>rfl
 | true =>
  dsimp only
  cases qfx treeTable p w (boot_heap w.params).objs.size ((boot_heap w.params).nsMap mainGlobals "__annotations__") N (qew w.params a) (topStub p) with
  | none=>rfl
  | some s =>
   show (match _ with | true=>_ | false=>_)=Option.map _ (match _ with | true=>_ | false=>_);cases staticsOk (importedModules p.main.body) (boot_heap w.params) s.abs.heap&&namesBound p s.abs.heap&&gensDone s.abs&&laidKept (boot_heap w.params) s.abs.heap<;>rfl
theorem packs {b A B C D E Y:Type} {o:Option b} {f:b->A×B×C×D×E} {g:b->Y} {x:A×B×C×D×E} {y:Y} (h1:o.map (fun s=>((f s).1,(f s).2.1,(f s).2.2.1,(f s).2.2.2.1))=some (x.1,x.2.1,x.2.2.1,x.2.2.2.1)) (h:o.map (fun s=>(f s).2.2.2.2)=some x.2.2.2.2) (c:o.map g=some y):o.map (fun s=>(f s,g s))=some (x,y):=by
 cases o with
 | none=>cases c
 | some s =>
  have a:=ym h1;have d:=ym h;have e:=ym c;have i:=congrArg Prod.fst a;have j:=congrArg (fun z=>z.2.1) a;have l:=congrArg (fun z=>z.2.2.1) a;have m:=congrArg (fun z=>z.2.2.2) a;exact congrArg some (Xd (Xd i (Xd j (Xd l (Xd m d)))) e)
theorem left_of {q:Program} {Xt:Shared->Bool} {Yf:Shared->α} {Ya:World->α} {N:Nat} (e:opening p=plainProg p.main.scope.names) (n:Nat.ble 600 N=true) (f:∀ s,fenceModules? p s=some s)
  (h:∀ w a,qeJ p q Xt Yf N w a=some (openGood q [],Ya w)):LeftO p q [] Xt Yf Ya N:=fun w=>by
 obtain ⟨⟨m,l,d,k,a⟩,i,j⟩:=yn.mp (boot_open e n f w);obtain ⟨rfl,rfl,rfl,rfl⟩:m=boot_heap w.params/\l=Array.mk []/\d=boot_drawn/\k=boot_toks:=by simpa using j
 have b:=h w a;unfold qeJ at b;unfold openEnds;rw [i];show (topFrom treeTable p w N _).map _=_;unfold topFrom;dsimp only;split at b
 ·rename_i z
  rw [z];obtain ⟨s,o,c⟩:=Option.bind_eq_some_iff.mp b;have r:=qe9 o
  have g:(qew w.params a).abs=⟨boot_heap w.params,Array.mk [],boot_drawn,boot_toks,a⟩:=by
   unfold qew SharedT.abs;dsimp only;rw [boot_abs]
  rw [g] at r;dsimp only;rw [r];split at c
  ·rename_i z2
   show ((match staticsOk (importedModules p.main.body) (boot_heap w.params) s.abs.heap&&namesBound p s.abs.heap&&gensDone s.abs&&laidKept (boot_heap w.params) s.abs.heap with | true=>some s.abs | false=>none):Option Shared).map _=_;rw [z2];exact c
  ·cases c
 ·cases b
end Hd
namespace K46
open PySem L2 PyProof.Rows PySem.W
noncomputable abbrev NN:Nat:=20000
noncomputable def Q:Program:=view PySem.Challenge.pw_onceroad_k46_sorts_by_own_counts [0,2,3,4,5,6,7,8,9,11,12,13,15,17,18,19,20,21,23,24,26,27,28,29,30,31,32,34,35,37,38,39,40,41,42,43,44,46,47,48,49,50,51,52,53,54,55,56,57,58,59,60,61,62]
noncomputable def en (P:Params) (t:Tok) (v:Value) (k:Str):DictEntry:=⟨PyData.keyHash P k,.str k t,v⟩
noncomputable def cO (t a b r:Nat) (x y z v:Value) (e u:Nat) (q n:Str):Obj:=⟨.type "code",none,.fields #[.str n t,.str q (t+1),.str "/claim/cut.py" (t+2),.int a 0,.int b 0,.int 0 0,.int 0 0,.int 3 0,.ref r,.bool true,.int 181 0,x,y,z,v,.ref e,.int u 0,.int a 0,.str "/claim/cut.py" (u+1)],#[]⟩
noncomputable def cE (t b a r:Nat) (x y z v:Value) (e u:Nat) (n:Str):Obj:=cO t b a r x y z v e u n n
noncomputable def fO (k c:Nat) (s:Stmt) (m q n:Str):Obj:=⟨.type "function",none,.func (fnOf n q (qah s) (zt s) (qg s) .none .none .none (.str m k) none (.ref c) .none),#[]⟩
noncomputable def fE (k c:Nat) (s:Stmt) (m n:Str):Obj:=fO k c s m n n
noncomputable def Kf (P:Params):Frag:=
 (nat_lit 1,(⟨(.type "dict"),none,.dict #[en P 162 (.ref 4) "builtins",en P 163 (.ref 5) "__main__"] 2,#[]⟩:Obj)) ::
 (nat_lit 2,(⟨.none,none,.dict #[] 0,#[]⟩:Obj)) ::
 (nat_lit 3,(⟨(.type "dict"),none,.dict #[en P 165 (.str "law_onceroad_k46_sorts_by_own_counts" 896) "__name__",en P 166 .none "__doc__",en P 167 .none "__package__",en P 168 (.builtin "__main__.__loader__#opaque") "__loader__",en P 169 .none "__spec__",en P 170 (.ref 6) "__annotations__",en P 171 (.ref 4) "__builtins__",en P 173 (.str "/claim/cut.py" 172) "__file__",en P 174 .none "__cached__",en P 193 (.ref 21) "_wall",en P 221 (.ref 38) "OnceError",en P 246 (.ref 58) "NoName",en P 271 (.ref 77) "Twice",en P 296 (.ref 96) "NoPlace",en P 321 (.ref 115) "NoTie",en P 346 (.ref 134) "TooMany",en P 371 (.ref 153) "NoPairs",en P 396 (.ref 172) "NoRow",en P 408 (.ref 181) "are_pairs",en P 418 (.ref 188) "partners_in",en P 424 (.ref 193) "told_pairs",en P 554 (.ref 281) "Forest",en P 566 (.ref 292) "is_row",en P 576 (.ref 299) "are_unlike_places",en P 582 (.ref 304) "goes_by_turns",en P 594 (.ref 311) "can_turn",en P 600 (.ref 316) "turned",en P 609 (.ref 323) "greatest",en P 620 (.ref 330) "greatest_from",en P 630 (.ref 337) "sort_of",en P 640 (.ref 344) "sorts",en P 646 (.ref 349) "word_for",en P 653 (.ref 356) "loose",en P 660 (.ref 363) "held",en P 667 (.ref 370) "fast",en P 673 (.ref 375) "places_with",en P 677 (.int 6 676) "LONGEST_NAME",en P 683 (.ref 380) "is_name",en P 687 (.int 14 686) "MOST_PLACES",en P 689 (.int 30 688) "MOST_TIES",en P 849 (.ref 507) "Web",en P 857 (.ref 518) "has_bit",en P 865 (.ref 525) "is_place",en P 874 (.ref 532) "are_two_places",en P 883 (.ref 539) "numbers_of",en P 895 (.ref 546) "near_of",en P 905 (.ref 553) "_law_cell",en P 912 (.ref 560) "_law_purse",en P 922 (.ref 567) "_law_take",en P 928 (.ref 572) "_law_names",en P 942 (.ref 579) "_law_ties",en P 950 (.ref 586) "_law_many",en P 961 (.ref 593) "_law_made",en P 972 (.ref 600) "_law_bits",en P 987 (.ref 607) "_law_table",en P 993 (.ref 612) "_law_free",en P 999 (.ref 617) "_law_near",en P 1005 (.ref 622) "_law_words",en P 1012 (.ref 629) "_law_lists",en P 1018 (.ref 634) "_law_right",en P 1028 (.ref 641) "_law_refused",en P 1038 (.ref 648) "_law_drawn",en P 1053 (.ref 655) "law"] 63,#[]⟩:Obj)) ::
 (nat_lit 34,cO 208 7 2 29 (.ref 30) .none (.ref 31) (.ref 32) 33 213 "OnceError.__init__" "__init__") ::
 (nat_lit 35,fO 194 34 js "onceroad.errors" "OnceError.__init__" "__init__") ::
 (nat_lit 37,(⟨(.type "dict"),none,.dict #[en P 203 (.str "onceroad.errors" 194) "__module__",en P 207 (.int 5 206) "__firstlineno__",en P 215 (.ref 35) "__init__",en P 216 (.ref 36) "__static_attributes__",en P 218 (.ref 39) "__weakref__",en P 219 .none "__doc__"] 3,#[]⟩:Obj)) ::
 (nat_lit 38,(⟨(.type "type"),none,.cls { name:="OnceError",bases:=[(.type "ValueError")],mro:=[(.ref 38),(.type "ValueError"),(.type "Exception"),(.type "BaseException"),(.type "object")],ns:=37,qualname:="OnceError",hasDict:=true,slotNames:=[],subclasses:=[(.ref 58),(.ref 77),(.ref 96),(.ref 115),(.ref 134),(.ref 153),(.ref 172)],abstract:=false,collection:=none,hasDel:=false },#[(some (.ref 22)),none,(some (.str "OnceError" 196)),(some (.str "OnceError" 204)),(some (.builtin "ValueError.__new__")),(some (.bool true))]⟩:Obj)) ::
 (nat_lit 92,cO 284 21 2 87 (.ref 88) .none (.ref 89) (.ref 90) 91 289 "NoPlace.__init__" "__init__") ::
 (nat_lit 93,fO 194 92 jN "onceroad.errors" "NoPlace.__init__" "__init__") ::
 (nat_lit 95,(⟨(.type "dict"),none,.dict #[en P 279 (.str "onceroad.errors" 194) "__module__",en P 283 (.int 19 282) "__firstlineno__",en P 291 (.ref 93) "__init__",en P 293 (.ref 94) "__static_attributes__",en P 294 .none "__doc__"] 2,#[]⟩:Obj)) ::
 (nat_lit 96,(⟨(.type "type"),none,.cls { name:="NoPlace",bases:=[(.ref 38)],mro:=[(.ref 96),(.ref 38),(.type "ValueError"),(.type "Exception"),(.type "BaseException"),(.type "object")],ns:=95,qualname:="NoPlace",hasDict:=true,slotNames:=[],subclasses:=[],abstract:=false,collection:=none,hasDel:=false },#[(some (.ref 80)),none,(some (.str "NoPlace" 272)),(some (.str "NoPlace" 280)),(some (.builtin "ValueError.__new__")),(some (.bool true))]⟩:Obj)) ::
 (nat_lit 152,(⟨(.type "dict"),none,.dict #[en P 354 (.str "onceroad.errors" 194) "__module__",en P 358 (.int 34 357) "__firstlineno__",en P 366 (.ref 150) "__init__",en P 368 (.ref 151) "__static_attributes__",en P 369 .none "__doc__"] 2,#[]⟩:Obj)) ::
 (nat_lit 153,(⟨(.type "type"),none,.cls { name:="NoPairs",bases:=[(.ref 38)],mro:=[(.ref 153),(.ref 38),(.type "ValueError"),(.type "Exception"),(.type "BaseException"),(.type "object")],ns:=152,qualname:="NoPairs",hasDict:=true,slotNames:=[],subclasses:=[],abstract:=false,collection:=none,hasDel:=false },#[(some (.ref 137)),none,(some (.str "NoPairs" 347)),(some (.str "NoPairs" 355)),(some (.builtin "ValueError.__new__")),(some (.bool true))]⟩:Obj)) ::
 (nat_lit 180,cE 399 45 2 175 (.ref 176) .none (.ref 177) (.ref 178) 179 406 "are_pairs") ::
 (nat_lit 181,fE 397 180 zA "onceroad.pairs" "are_pairs") ::
 (nat_lit 187,cE 409 55 2 182 (.ref 183) .none (.ref 184) (.ref 185) 186 416 "partners_in") ::
 (nat_lit 188,fE 397 187 jX "onceroad.pairs" "partners_in") ::
 (nat_lit 192,cE 419 63 2 189 (.ref 190) .none .none .none 191 422 "told_pairs") ::
 (nat_lit 193,fE 397 192 jS "onceroad.pairs" "told_pairs") ::
 (nat_lit 206,cO 439 69 3 201 (.ref 202) .none (.ref 203) (.ref 204) 205 445 "Forest.__init__" "__init__") ::
 (nat_lit 207,fO 425 206 jZ "onceroad.forests" "Forest.__init__" "__init__") ::
 (nat_lit 213,cO 448 80 1 208 (.ref 209) .none (.ref 210) (.ref 211) 212 452 "Forest.row" "row") ::
 (nat_lit 214,fO 425 213 zk "onceroad.forests" "Forest.row" "row") ::
 (nat_lit 218,cO 455 83 1 215 (.ref 216) .none .none .none 217 458 "Forest.reached" "reached") ::
 (nat_lit 219,fO 425 218 je "onceroad.forests" "Forest.reached" "reached") ::
 (nat_lit 239,cO 476 94 1 234 (.ref 235) .none (.ref 236) (.ref 237) 238 481 "Forest.grow" "grow") ::
 (nat_lit 240,fO 425 239 jY "onceroad.forests" "Forest.grow" "grow") ::
 (nat_lit 246,cO 484 102 3 241 (.ref 242) .none (.ref 243) (.ref 244) 245 490 "Forest.reach" "reach") ::
 (nat_lit 247,fO 425 246 jP "onceroad.forests" "Forest.reach" "reach") ::
 (nat_lit 253,cO 493 106 2 248 (.ref 249) .none (.ref 250) (.ref 251) 252 500 "Forest.look_around" "look_around") ::
 (nat_lit 254,fO 425 253 qX "onceroad.forests" "Forest.look_around" "look_around") ::
 (nat_lit 258,cO 503 117 3 255 (.ref 256) .none .none .none 257 506 "Forest.bring_together" "bring_together") ::
 (nat_lit 259,fO 425 258 qG "onceroad.forests" "Forest.bring_together" "bring_together") ::
 (nat_lit 265,cO 509 128 2 260 (.ref 261) .none (.ref 262) (.ref 263) 264 516 "Forest.bases_down_from" "bases_down_from") ::
 (nat_lit 266,fO 425 265 qL "onceroad.forests" "Forest.bases_down_from" "bases_down_from") ::
 (nat_lit 272,cO 519 135 4 267 (.ref 268) .none (.ref 269) (.ref 270) 271 530 "Forest.reach_round" "reach_round") ::
 (nat_lit 273,fO 425 272 qW "onceroad.forests" "Forest.reach_round" "reach_round") ::
 (nat_lit 277,cO 533 144 3 274 (.ref 275) .none .none .none 276 536 "Forest.fold" "fold") ::
 (nat_lit 278,fO 425 277 jC "onceroad.forests" "Forest.fold" "fold") ::
 (nat_lit 280,(⟨(.type "dict"),none,.dict #[en P 434 (.str "onceroad.forests" 425) "__module__",en P 438 (.int 67 437) "__firstlineno__",en P 447 (.ref 207) "__init__",en P 454 (.ref 214) "row",en P 460 (.ref 219) "reached",en P 468 (.ref 226) "row_to",en P 475 (.ref 233) "folds",en P 483 (.ref 240) "grow",en P 492 (.ref 247) "reach",en P 502 (.ref 254) "look_around",en P 508 (.ref 259) "bring_together",en P 518 (.ref 266) "bases_down_from",en P 532 (.ref 273) "reach_round",en P 538 (.ref 278) "fold",en P 547 (.ref 279) "__static_attributes__",en P 549 (.ref 282) "__dict__",en P 551 (.ref 283) "__weakref__",en P 552 .none "__doc__"] 4,#[]⟩:Obj)) ::
 (nat_lit 281,(⟨(.type "type"),none,.cls { name:="Forest",bases:=[(.type "object")],mro:=[(.ref 281),(.type "object")],ns:=280,qualname:="Forest",hasDict:=true,slotNames:=[],subclasses:=[],abstract:=false,collection:=none,hasDel:=false },#[none,none,(some (.str "Forest" 427)),(some (.str "Forest" 435)),(some (.builtin "object.__new__")),(some (.bool true))]⟩:Obj)) ::
 (nat_lit 291,cE 557 150 3 286 (.ref 287) .none (.ref 288) (.ref 289) 290 564 "is_row") ::
 (nat_lit 292,fE 555 291 qaZ "onceroad.rows" "is_row") ::
 (nat_lit 298,cE 567 155 2 293 (.ref 294) .none (.ref 295) (.ref 296) 297 574 "are_unlike_places") ::
 (nat_lit 299,fE 555 298 jd "onceroad.rows" "are_unlike_places") ::
 (nat_lit 303,cE 577 164 3 300 (.ref 301) .none .none .none 302 580 "goes_by_turns") ::
 (nat_lit 304,fE 555 303 qO "onceroad.rows" "goes_by_turns") ::
 (nat_lit 310,cE 583 170 3 305 (.ref 306) .none (.ref 307) (.ref 308) 309 592 "can_turn") ::
 (nat_lit 311,fE 555 310 qac "onceroad.rows" "can_turn") ::
 (nat_lit 315,cE 595 177 3 312 (.ref 313) .none .none .none 314 598 "turned") ::
 (nat_lit 316,fE 555 315 qaA "onceroad.rows" "turned") ::
 (nat_lit 322,cE 603 184 1 317 (.ref 318) .none (.ref 319) (.ref 320) 321 607 "greatest") ::
 (nat_lit 323,fE 601 322 qad "onceroad.greatest" "greatest") ::
 (nat_lit 329,cE 610 186 2 324 (.ref 325) .none (.ref 326) (.ref 327) 328 618 "greatest_from") ::
 (nat_lit 330,fE 601 329 jD "onceroad.greatest" "greatest_from") ::
 (nat_lit 336,cE 623 196 2 331 (.ref 332) .none (.ref 333) (.ref 334) 335 628 "sort_of") ::
 (nat_lit 337,fE 621 336 zR "onceroad.sorts" "sort_of") ::
 (nat_lit 343,cE 631 199 1 338 (.ref 339) .none (.ref 340) (.ref 341) 342 638 "sorts") ::
 (nat_lit 344,fE 621 343 qb6 "onceroad.sorts" "sorts") ::
 (nat_lit 348,cE 641 205 3 345 (.ref 346) .none .none .none 347 644 "word_for") ::
 (nat_lit 349,fE 621 348 zr "onceroad.sorts" "word_for") ::
 (nat_lit 355,cE 647 209 1 350 (.ref 351) .none (.ref 352) (.ref 353) 354 651 "loose") ::
 (nat_lit 356,fE 621 355 qb7 "onceroad.sorts" "loose") ::
 (nat_lit 362,cE 654 211 1 357 (.ref 358) .none (.ref 359) (.ref 360) 361 658 "held") ::
 (nat_lit 363,fE 621 362 qdw "onceroad.sorts" "held") ::
 (nat_lit 369,cE 661 213 1 364 (.ref 365) .none (.ref 366) (.ref 367) 368 665 "fast") ::
 (nat_lit 370,fE 621 369 qdx "onceroad.sorts" "fast") ::
 (nat_lit 374,cE 668 215 2 371 (.ref 372) .none .none .none 373 671 "places_with") ::
 (nat_lit 375,fE 621 374 jE "onceroad.sorts" "places_with") ::
 (nat_lit 379,cE 678 220 1 376 (.ref 377) .none .none .none 378 681 "is_name") ::
 (nat_lit 380,fE 674 379 j6 "onceroad.names" "is_name") ::
 (nat_lit 393,cO 702 229 3 388 (.ref 389) .none (.ref 390) (.ref 391) 392 708 "Web.__init__" "__init__") ::
 (nat_lit 394,fO 684 393 zY "onceroad.webs" "Web.__init__" "__init__") ::
 (nat_lit 400,cO 711 234 1 395 (.ref 396) .none (.ref 397) (.ref 398) 399 715 "Web.places" "places") ::
 (nat_lit 401,fO 684 400 zi "onceroad.webs" "Web.places" "places") ::
 (nat_lit 407,cO 718 237 1 402 (.ref 403) .none (.ref 404) (.ref 405) 406 725 "Web.ties" "ties") ::
 (nat_lit 408,fO 684 407 qab "onceroad.webs" "Web.ties" "ties") ::
 (nat_lit 421,cO 735 248 2 416 (.ref 417) .none (.ref 418) (.ref 419) 420 740 "Web.has_place" "has_place") ::
 (nat_lit 422,fO 684 421 jk "onceroad.webs" "Web.has_place" "has_place") ::
 (nat_lit 428,cO 743 251 2 423 (.ref 424) .none (.ref 425) (.ref 426) 427 748 "Web.has_tie" "has_tie") ::
 (nat_lit 429,fO 684 428 jW "onceroad.webs" "Web.has_tie" "has_tie") ::
 (nat_lit 435,cO 751 254 2 430 (.ref 431) .none (.ref 432) (.ref 433) 434 756 "Web.number_of" "number_of") ::
 (nat_lit 436,fO 684 435 jl "onceroad.webs" "Web.number_of" "number_of") ::
 (nat_lit 442,cO 759 259 2 437 (.ref 438) .none (.ref 439) (.ref 440) 441 764 "Web.beside" "beside") ::
 (nat_lit 443,fO 684 442 zj "onceroad.webs" "Web.beside" "beside") ::
 (nat_lit 449,cO 767 262 2 444 (.ref 445) .none (.ref 446) (.ref 447) 448 772 "Web.bits_beside" "bits_beside") ::
 (nat_lit 450,fO 684 449 jm "onceroad.webs" "Web.bits_beside" "bits_beside") ::
 (nat_lit 456,cO 775 265 3 451 (.ref 452) .none (.ref 453) (.ref 454) 455 782 "Web.tied" "tied") ::
 (nat_lit 457,fO 684 456 zZ "onceroad.webs" "Web.tied" "tied") ::
 (nat_lit 475,cO 799 275 2 472 (.ref 473) .none .none .none 474 802 "Web.names_in" "names_in") ::
 (nat_lit 476,fO 684 475 jq "onceroad.webs" "Web.names_in" "names_in") ::
 (nat_lit 506,(⟨(.type "dict"),none,.dict #[en P 697 (.str "onceroad.webs" 684) "__module__",en P 701 (.int 227 700) "__firstlineno__",en P 710 (.ref 394) "__init__",en P 717 (.ref 401) "places",en P 727 (.ref 408) "ties",en P 734 (.ref 415) "how_many",en P 742 (.ref 422) "has_place",en P 750 (.ref 429) "has_tie",en P 758 (.ref 436) "number_of",en P 766 (.ref 443) "beside",en P 774 (.ref 450) "bits_beside",en P 784 (.ref 457) "tied",en P 791 (.ref 464) "pieces",en P 798 (.ref 471) "told",en P 804 (.ref 476) "names_in",en P 812 (.ref 483) "without",en P 820 (.ref 490) "with_place",en P 829 (.ref 497) "with_tie",en P 838 (.ref 504) "without_tie",en P 842 (.ref 505) "__static_attributes__",en P 844 (.ref 508) "__dict__",en P 846 (.ref 509) "__weakref__",en P 847 .none "__doc__"] 4,#[]⟩:Obj)) ::
 (nat_lit 507,(⟨(.type "type"),none,.cls { name:="Web",bases:=[(.type "object")],mro:=[(.ref 507),(.type "object")],ns:=506,qualname:="Web",hasDict:=true,slotNames:=[],subclasses:=[],abstract:=false,collection:=none,hasDel:=false },#[none,none,(some (.str "Web" 690)),(some (.str "Web" 698)),(some (.builtin "object.__new__")),(some (.bool true))]⟩:Obj)) ::
 (nat_lit 517,cE 850 289 2 512 (.ref 513) .none (.ref 514) (.ref 515) 516 855 "has_bit") ::
 (nat_lit 518,fE 684 517 qax "onceroad.webs" "has_bit") ::
 (nat_lit 524,cE 858 291 2 519 (.ref 520) .none (.ref 521) (.ref 522) 523 863 "is_place") ::
 (nat_lit 525,fE 684 524 zo "onceroad.webs" "is_place") ::
 (nat_lit 531,cE 866 293 2 526 (.ref 527) .none (.ref 528) (.ref 529) 530 872 "are_two_places") ::
 (nat_lit 532,fE 684 531 jt "onceroad.webs" "are_two_places") ::
 (nat_lit 538,cE 875 298 1 533 (.ref 534) .none (.ref 535) (.ref 536) 537 881 "numbers_of") ::
 (nat_lit 539,fE 684 538 zg "onceroad.webs" "numbers_of") ::
 (nat_lit 545,cE 884 311 2 540 (.ref 541) .none (.ref 542) (.ref 543) 544 893 "near_of") ::
 (nat_lit 546,fE 684 545 qay "onceroad.webs" "near_of") ::
 (nat_lit 552,cE 898 328 2 547 (.ref 548) .none (.ref 549) (.ref 550) 551 903 "_law_cell") ::
 (nat_lit 553,fE 896 552 qa2 "law_onceroad_k46_sorts_by_own_counts" "_law_cell") ::
 (nat_lit 559,cE 906 332 1 554 (.ref 555) .none (.ref 556) (.ref 557) 558 910 "_law_purse") ::
 (nat_lit 560,fE 896 559 qaB "law_onceroad_k46_sorts_by_own_counts" "_law_purse") ::
 (nat_lit 566,cE 913 334 2 561 (.ref 562) .none (.ref 563) (.ref 564) 565 920 "_law_take") ::
 (nat_lit 567,fE 896 566 qa3 "law_onceroad_k46_sorts_by_own_counts" "_law_take") ::
 (nat_lit 571,cE 923 344 2 568 (.ref 569) .none .none .none 570 926 "_law_names") ::
 (nat_lit 572,fE 896 571 zP "law_onceroad_k46_sorts_by_own_counts" "_law_names") ::
 (nat_lit 578,cE 929 362 2 573 (.ref 574) .none (.ref 575) (.ref 576) 577 940 "_law_ties") ::
 (nat_lit 579,fE 896 578 qa5 "law_onceroad_k46_sorts_by_own_counts" "_law_ties") ::
 (nat_lit 585,cE 943 374 2 580 (.ref 581) .none (.ref 582) (.ref 583) 584 948 "_law_many") ::
 (nat_lit 586,fE 896 585 qa4 "law_onceroad_k46_sorts_by_own_counts" "_law_many") ::
 (nat_lit 592,cE 951 376 2 587 (.ref 588) .none (.ref 589) (.ref 590) 591 959 "_law_made") ::
 (nat_lit 593,fE 896 592 qa6 "law_onceroad_k46_sorts_by_own_counts" "_law_made") ::
 (nat_lit 599,cE 962 381 2 594 (.ref 595) .none (.ref 596) (.ref 597) 598 970 "_law_bits") ::
 (nat_lit 600,fE 896 599 qa7 "law_onceroad_k46_sorts_by_own_counts" "_law_bits") ::
 (nat_lit 606,cE 973 387 2 601 (.ref 602) .none (.ref 603) (.ref 604) 605 985 "_law_table") ::
 (nat_lit 607,fE 896 606 qaD "law_onceroad_k46_sorts_by_own_counts" "_law_table") ::
 (nat_lit 611,cE 988 401 3 608 (.ref 609) .none .none .none 610 991 "_law_free") ::
 (nat_lit 612,fE 896 611 qaE "law_onceroad_k46_sorts_by_own_counts" "_law_free") ::
 (nat_lit 616,cE 994 404 2 613 (.ref 614) .none .none .none 615 997 "_law_near") ::
 (nat_lit 617,fE 896 616 qaf "law_onceroad_k46_sorts_by_own_counts" "_law_near") ::
 (nat_lit 621,cE 1000 407 2 618 (.ref 619) .none .none .none 620 1003 "_law_words") ::
 (nat_lit 622,fE 896 621 zS "law_onceroad_k46_sorts_by_own_counts" "_law_words") ::
 (nat_lit 628,cE 1006 412 1 623 (.ref 624) .none (.ref 625) (.ref 626) 627 1010 "_law_lists") ::
 (nat_lit 629,fE 896 628 qaF "law_onceroad_k46_sorts_by_own_counts" "_law_lists") ::
 (nat_lit 633,cE 1013 414 4 630 (.ref 631) .none .none .none 632 1016 "_law_right") ::
 (nat_lit 634,fE 896 633 zT "law_onceroad_k46_sorts_by_own_counts" "_law_right") ::
 (nat_lit 640,cE 1019 431 2 635 (.ref 636) .none (.ref 637) (.ref 638) 639 1026 "_law_refused") ::
 (nat_lit 641,fE 896 640 zD "law_onceroad_k46_sorts_by_own_counts" "_law_refused") ::
 (nat_lit 647,cE 1029 440 1 642 (.ref 643) .none (.ref 644) (.ref 645) 646 1036 "_law_drawn") ::
 (nat_lit 648,fE 896 647 qaG "law_onceroad_k46_sorts_by_own_counts" "_law_drawn") ::
 (nat_lit 654,cE 1039 445 1 649 (.ref 650) .none (.ref 651) (.ref 652) 653 1051 "law") ::
 (nat_lit 655,fE 896 654 qc0 "law_onceroad_k46_sorts_by_own_counts" "law") ::
 []
noncomputable def ks:List Addr:=[1,2,3,34,35,37,38,92,93,95,96,152,153,180,181,187,188,192,193,206,207,213,214,218,219,239,240,246,247,253,254,258,259,265,266,272,273,277,278,280,281,291,292,298,299,303,304,310,311,315,316,322,323,329,330,336,337,343,344,348,349,355,356,362,363,369,370,374,375,379,380,393,394,400,401,407,408,421,422,428,429,435,436,442,443,449,450,456,457,475,476,506,507,517,518,524,525,531,532,538,539,545,546,552,553,559,560,566,567,571,572,578,579,585,586,592,593,599,600,606,607,611,612,616,617,621,622,628,629,633,634,640,641,647,648,654,655]
theorem ks_eq:∀ P,ks=(Kf P).map (·.1):=fun P=>by kernel_rfl
noncomputable abbrev Hk:Hook:=kHook Kf ks ks_eq
noncomputable abbrev Xt (s:Shared):Bool:=xlAt Q [] s&&recOk [] s
noncomputable abbrev sn (s:Shared):=openSeen Q [] (importedModules PySem.Challenge.pw_onceroad_k46_sorts_by_own_counts.main.body) Xt true s
noncomputable def runA (w:World) (a:OsState):=(Hd.lookS PySem.Challenge.pw_onceroad_k46_sorts_by_own_counts NN w a).map fun s=>((sn s).1,(sn s).2.1,(sn s).2.2.1,(sn s).2.2.2.1)
noncomputable def runB (w:World) (a:OsState):=(Hd.lookS PySem.Challenge.pw_onceroad_k46_sorts_by_own_counts NN w a).map fun s=>(sn s).2.2.2.2
noncomputable def runC (w:World) (a:OsState):=(Hd.lookS PySem.Challenge.pw_onceroad_k46_sorts_by_own_counts NN w a).map fun s=>ks.map s.heap.get?
noncomputable def gdA (_:World) (_:OsState):=some ((openGood Q []).1,(openGood Q []).2.1,(openGood Q []).2.2.1,(openGood Q []).2.2.2.1)
noncomputable def gdB (_:World) (_:OsState):=some (openGood Q []).2.2.2.2
noncomputable def gdC (w:World) (_:OsState):=some ((Kf w.params).map fun p=>some p.2)
noncomputable def tag {a:Type} (f g:World->OsState->a):Bool:=true
theorem tag1:(tag runA gdA&&(tag runB gdB&&tag runC runC))=true:=by k_qdec
theorem hA1 (w:World) (a:OsState):runA w a=gdA w a:=by
 rw [PySem.W.Fast.te4405514620273305487,PySem.W.Fast.te13172221483557709345]
 kernel_rfl
theorem hB1 (w:World) (a:OsState):runB w a=gdB w a:=by
 rw [PySem.W.Fast.te13616942721268673564,PySem.W.Fast.te3991415080600812814]
 kernel_rfl
theorem hC1 (w:World) (a:OsState):runC w a=gdC w a:=by
 rw [PySem.W.Fast.te11020736507087405493]
 kernel_rfl
theorem hl:LeftO PySem.Challenge.pw_onceroad_k46_sorts_by_own_counts Q [] Xt (Hook.obs Hk) (Hook.val Hk) NN:=Hd.left_of (by kernel_rfl) (by decide) (fun s=>by kernel_rfl) fun w a=>(Hd.lookT_map ..).trans (Hd.packs (hA1 w a) (hB1 w a) (hC1 w a))
end K46
namespace L2
open PySem PySem.Spec PyProof.Rows
variable {A:Around} {C a b dx it:Addr} {CX:CXT} {D:Ends} {E:Value->Shared->Prop} {H:Hp} {M:Model} {N ps:List Str} {P:Program} {X:Cx} {base h:Heap} {body:List Stmt} {c e tg:Expr} {ch fp:List Addr} {d':Drawn} {es:List Expr} {f:Value->Value->Sem Value} {g:TG} {g':Array GenState} {i j n t':Nat} {kindOf:Str->Option NameKind} {kw:List (Str×Value)} {lo:Int} {mA mg:Str->Option Value} {o:HO} {op op':CmpOp} {outer:List Env} {p pos:Pos} {pins:List (Addr×Obj)} {pl:Sem Bool} {qual x:Str} {r r':R2} {s s':Shared} {sc scope:Scope} {t te:TE} {ta:TA} {tb:TS} {tc:TT} {u:Value} {us:List Value} {v y:V} {vs xs:List V} {w:World} {α:Type} {σ:St}
noncomputable abbrev Key:=Sum Int Str
noncomputable def qcI:Key->Value->Bool
 | .inl k,v=>Value.isInt k v
 | .inr x,v=>Value.isStrOf x v
noncomputable def keyH (w:World):Key->Int
 | .inl k=>hashInt k
 | .inr x=>hashStr w x
theorem qV:∀ {k:Key} {v:Value},qcI k v=true->(∃ i t,k=Sum.inl i/\v=Value.int i t)\/(∃ x t,k=Sum.inr x/\v=Value.str x t)
 | .inl i,v,h=>by
  obtain ⟨t,e⟩:=Value.isInt_shape (k:=i) (v:=v) h;exact .inl ⟨i,t,rfl,e⟩
 | .inr x,v,h=>by
  obtain ⟨t,e⟩:=Value.isStrOf_shape (x:=x) (v:=v) h;exact .inr ⟨x,t,rfl,e⟩
theorem keyIs_int (i:Int) (t:Tok):qcI (.inl i) (.int i t)=true:=by simp [qcI,Value.isInt]
theorem keyIs_str (x:Str) (t:Tok):qcI (.inr x) (.str x t)=true:=by simp [qcI,Value.isStrOf]
theorem key_ll (a b:Int):decide ((Sum.inl a:Key)=Sum.inl b)=(a==b):=by
 by_cases e:a=b
 ·subst e;simp
 ·have h:¬ (Sum.inl a:Key)=Sum.inl b:=fun q=>e (Sum.inl.inj q);rw [yl h];exact (Yx.mpr e).symm
theorem key_rr (a b:Str):decide ((Sum.inr a:Key)=Sum.inr b)=decide (a=b):=by
 by_cases e:a=b
 ·subst e;simp
 ·have h:¬ (Sum.inr a:Key)=Sum.inr b:=fun q=>e (xk q);rw [yl h,yl e]
theorem key_lr (a:Int) (b:Str):decide ((Sum.inl a:Key)=Sum.inr b)=false:=yl (fun q=>nomatch q)
theorem key_rl (a:Str) (b:Int):decide ((Sum.inr a:Key)=Sum.inl b)=false:=yl (fun q=>nomatch q)
noncomputable def jg (prog:Program) (w:World):PySem.KeyKind prog w Key where
 is:=qcI
 hash:=keyH w
 inj:=fun v a b d c=>by
  rcases qV d with ⟨i,t,rfl,rfl⟩ | ⟨x,t,rfl,rfl⟩
  ·rcases qV c with ⟨j,u,rfl,e⟩ | ⟨y,u,rfl,e⟩
   ·injection e with e1 _;rw [e1]
   ·exact nomatch e
  ·rcases qV c with ⟨j,u,rfl,e⟩ | ⟨y,u,rfl,e⟩
   ·exact nomatch e
   ·injection e with e1 _;rw [e1]
 byValue:=fun k v h=>by
  rcases qV h with ⟨i,t,rfl,rfl⟩ | ⟨x,t,rfl,rfl⟩<;>rfl
 pyHash:=fun hv h=>by
  rcases qV hv with ⟨i,t,rfl,rfl⟩ | ⟨x,t,rfl,rfl⟩
  ·exact wpAny_pyHash_int h
  ·exact wpAny_pyHash_str h
 eqBool:=fun f hv h=>by
  rcases qV f with ⟨i,t,rfl,rfl⟩ | ⟨x,t,rfl,rfl⟩
  ·rcases qV hv with ⟨j,u,rfl,rfl⟩ | ⟨y,u,rfl,rfl⟩
   ·rw [key_ll] at h;exact wpAny_eqBool_int h
   ·rw [key_lr] at h;exact SeqAt.EqAt.int_str i t y u _ _ _ _ h
  ·rcases qV hv with ⟨j,u,rfl,rfl⟩ | ⟨y,u,rfl,rfl⟩
   ·rw [key_rl] at h;exact SeqAt.EqAt.str_int x t j u _ _ _ _ h
   ·rw [key_rr] at h;exact wpAny_eqBool_str h
 «strs»:=fun k x t v h=>by
  rcases qV h with ⟨i,u,rfl,e⟩ | ⟨y,u,rfl,e⟩
  ·exact nomatch e
  ·injection e with e1 _
   subst e1;cases v<;>rfl
theorem mixKind_int (prog:Program) (w:World) (i:Int) (t:Tok):(jg prog w).is (.inl i) (.int i t)=true:=keyIs_int i t
theorem mixKind_str (prog:Program) (w:World) (x:Str) (t:Tok):(jg prog w).is (.inr x) (.str x t)=true:=keyIs_str x t
inductive V where
 | non | bl (b:Bool) | int (i:Int) | str (x:Str) | byt (b:Array UInt8) | flt (b:UInt64) | ref (a:Addr) | ty (n:String)
 deriving DecidableEq
def RelV:V->Value->Prop
 | .non,u=>u=Value.none
 | .bl b,u=>u=Value.bool b
 | .int i,u=>∃ t,u=Value.int i t
 | .str x,u=>∃ t,u=Value.str x t
 | .byt b,u=>∃ t,u=Value.bytes b t
 | .flt b,u=>∃ t,u=Value.float b t
 | .ref a,u=>u=Value.ref a
 | .ty n,u=>u=Value.type n
abbrev Vals:List V->List Value->Prop:=Paired RelV
theorem Vals.length (r:Vals xs us):xs.length=us.length:=X9 r
theorem Vals.get:∀ {xs:List V} {us:List Value} {i:Nat} {x:V},Vals xs us->xs[i]?=some x->∃ u,us[i]?=some u/\RelV x u
 | _,_,_,_,.nil,e=>by simp at e
 | _,_,0,_,.cons r _,e=>by simp at e;subst e;exact ⟨_,rfl,r⟩
 | _,_,i+1,x,.cons _ t,e=>by
  obtain ⟨u,h1,a⟩:=Vals.get (i:=i) (x:=x) t (by simpa using e);exact ⟨u,by simpa using h1,a⟩
theorem Vals.set {x:V} (r:RelV x u):∀ {xs:List V} {us:List Value} (i:Nat),Vals xs us->Vals (xs.set i x) (us.set i u)
 | _,_,_,.nil=>.nil
 | _,_,0,.cons _ t=>.cons r t
 | _,_,i+1,.cons q t=>.cons q (Vals.set r i t)
theorem Vals.append:∀ {xs ys:List V} {us a:List Value},Vals xs us->Vals ys a->Vals (xs++ys) (us++a)
 | _,_,_,_,.nil,s=>s
 | _,_,_,_,.cons r t,s=>.cons r (Vals.append t s)
theorem Vals.take:∀ {xs:List V} {us:List Value} (n:Nat),Vals xs us->Vals (xs.take n) (us.take n)
 | _,_,0,_=>.nil
 | _,_,_+1,.nil=>.nil
 | _,_,n+1,.cons r t=>.cons r (Vals.take n t)
theorem Vals.drop:∀ {xs:List V} {us:List Value} (n:Nat),Vals xs us->Vals (xs.drop n) (us.drop n)
 | _,_,0,r=>r
 | _,_,_+1,.nil=>.nil
 | _,_,n+1,.cons _ t=>Vals.drop n t
def RelO:Option V->Option Value->Prop
 | some v,some u=>RelV v u
 | none,none=>True
 | _,_=>False
def KV {a:Type}:List (a×V)->List (a×Value)->Prop:=Paired fun (p:a×V) (q:a×Value)=>p.1=q.1/\RelV p.2 q.2
noncomputable def kV:Key->V
 | .inl i=>.int i
 | .inr x=>.str x
inductive HO where
 /-- a list -/
 | lst (xs:List V)
 /-- a tuple (never changes) -/
 | tup (xs:List V)
 /-- a dict whose keys are ints and texts;one whose keys are tuples of ints and texts (the empty one is both) -/
 | dK (kvs:List (Key×V)) | dT (kvs:List (List Key×V))
 /-- a set of ints: its members,its size -/
 | set (S:Int->Bool) (n:Nat)
 /-- an instance of the class at C,its dict at dx,its attributes -/
 | ins (C dx:Addr) (fs:List (Str×V))
 /-- the dict of the instance at x -/
 | own (x:Addr)
 /-- the dict of an exception -/
 | xd (fs:List (Str×V))
 /-- a bound method,f of x -/
 | met (f x:Addr)
 /-- a range object lo,lo+1,.. below hi -/
 | rng (lo hi:Int)
 /-- a thing that is known to the object (the script;a dict while a loop walks it): read,never written while it is so -/
 | frz (o:Obj) (u:HO)
 /-- a code object's table -/
 | tbl (ps:Array Value)
 /-- any other thing,by what is true of its one object (a def of one's own: SetO a S n:=HO.ext fun h=>..) -/
 | ext (φ:Heap->Prop)
noncomputable abbrev Hp:=Addr->Option HO
noncomputable def upd (H:Hp) (a:Addr) (o:HO):Hp:=fun b=>if b=a then some o else H b
theorem qb:upd H a o a=some o:=by unfold upd;rw [yF rfl]
theorem qf (h:b≠a):upd H a o b=H b:=by unfold upd;rw [yy h]
theorem qan {u:HO} (h:H a=some o) (h':H b=some u) (d:o≠u):a≠b:=by
 intro e;subst e;rw [h] at h';exact d (ym h')
theorem qH (h:H a=some o) (h':H b=none):a≠b:=by
 intro e;subst e;rw [h] at h';cases h'
section
variable (P:Program) (w:World)
def ObjOk (H:Hp) (h:Heap) (a:Addr):HO->Prop
 | .lst xs=>xs.length<=sizeLine/\∃ (b:List Value) (n:Nat),Vals xs b/\h.get? a=some { cls:=.type "list",data:=.seq b.toArray n }
 | .tup xs=>xs.length<=sizeLine/\∃ b:List Value,Vals xs b/\IsTup h a b.toArray
 | .dK kvs=>kvs.length<=sizeLine/\(a==sysModules)=false/\∃ vs,KV kvs vs/\h.DictOf (jg P w) a vs
 | .dT kvs=>kvs.length<=sizeLine/\(a==sysModules)=false/\∃ xs:List (List Key×Addr×Value),
   Paired (fun (p:List Key×V) (q:List Key×Addr×Value)=>p.1=q.1/\H q.2.1=some (.tup (p.1.map kV))/\RelV p.2 q.2.2) kvs xs /\
   ∃ o es ep,h.get? a=some o/\o.ExactDict/\o.data=.dict es ep/\es.toList=xs.map (entryOfKey (tupleKind (jg P w)))/\(xs.map (·.1)).Nodup
 | .set S n=>h.SetOf (intKind P w) a S n
 | .ins C dx fs=>H dx=some (.own a)/\fs.length<=1000/\dx≠a/\h.get? a=some (PySem.W.instObj C dx) /\
   ∃ mA,h.Ns1 dx mA/\(∀ f,RelO (fs.lookup f) (mA f))/\PySem.Within mA (fs.map (·.1))
 | .own _=>∃ o,h.get? a=some o
 | .xd fs=>∃ mA,h.Ns1 a mA/\∀ f,RelO (fs.lookup f) (mA f)
 | .rng lo hi=>∃ t u v,h.get? a=some { cls:=.type "range",data:=.fields #[.int lo t,.int hi u,.int 1 v] }
 | .frz o u=>h.get? a=some o/\ObjOk H h a u
 | .tbl ps=>h.get? a=some { cls:=.none,data:=.fields ps }
 | .met f x=>h.get? a=some (PySem.W.methodObj (.ref f) (.ref x))
 | .ext φ=>φ h/\(∃ o,h.get? a=some o)/\∀ h1 c:Heap,φ h1->(∀ o,h1.get? a=some o->c.get? a=some o)->φ c
def HOk (H:Hp) (h:Heap):Prop:=∀ a o,H a=some o->ObjOk P w H h a o
end
section
variable {P:Program} {w:World} {H H':Hp} {h h':Heap} {a:Addr} {o:HO}
theorem ObjOk.lt (x:ObjOk P w H h a o):a<h.objs.size:=by
 cases o with
 | lst xs=>obtain ⟨_,_,_,_,e⟩:=x;exact yH e
 | tup xs=>obtain ⟨_,_,_,p⟩:=x;exact p.lt
 | dK kvs=>obtain ⟨_,_,_,_,o,_,_,e,_⟩:=x;exact yH e
 | dT kvs=>obtain ⟨_,_,_,_,o,_,_,e,_⟩:=x;exact yH e
 | set S n=>obtain ⟨o,_,_,_,e,_⟩:=x;exact yH e
 | ins C dx fs=>obtain ⟨_,_,_,e,_⟩:=x;exact yH e
 | own y=>obtain ⟨_,e⟩:=x;exact yH e
 | xd fs=>obtain ⟨_,⟨_,_,_,e,_⟩,_⟩:=x;exact yH e
 | rng lo hi=>obtain ⟨_,_,_,e⟩:=x;exact yH e
 | frz ob u=>obtain ⟨e,_⟩:=x;exact yH e
 | tbl ps=>exact yH (show h.get? a=some _ from x)
 | met f y=>exact yH (show h.get? a=some _ from x)
 | ext φ=>obtain ⟨_,⟨_,e⟩,_⟩:=x;exact yH e
theorem Paired.mapP {d:Type} {F G:α->d->Prop}:∀ {l₁:List α} {c:List d},Paired F l₁ c->(∀ a b,F a b->G a b)->Paired G l₁ c
 | _,_,.nil,_=>.nil
 | _,_,.cons r t,f=>.cons (f _ _ r) (Paired.mapP t f)
theorem ObjOk.stay (x:ObjOk P w H h a o) (k:∀ b u,(b=a\/H b=some (.own a))->h.get? b=some u->h'.get? b=some u)
  (l:∀ b,H b=some (.own a)->H' b=some (.own a)) (m:∀ b xs,H b=some (.tup xs)->H' b=some (.tup xs)):ObjOk P w H' h' a o:=by
 induction o with
 | lst xs=>obtain ⟨z,i,n,r,e⟩:=x;exact ⟨z,i,n,r,k _ _ (.inl rfl) e⟩
 | tup xs=>obtain ⟨z,i,r,g,e,c⟩:=x;exact ⟨z,i,r,g,k _ _ (.inl rfl) e,c⟩
 | dK kvs=>obtain ⟨z,y,vs,r,g,es,ep,e,c⟩:=x;exact ⟨z,y,vs,r,g,es,ep,k _ _ (.inl rfl) e,c⟩
 | dT kvs =>
  obtain ⟨z,y,xs,r,g,es,ep,e,c⟩:=x;exact ⟨z,y,xs,Paired.mapP r fun p q z=>⟨z.1,m _ _ z.2.1,z.2.2⟩,g,es,ep,k _ _ (.inl rfl) e,c⟩
 | set S n=>obtain ⟨g,es,ep,t,e,c⟩:=x;exact ⟨g,es,ep,t,k _ _ (.inl rfl) e,c⟩
 | ins C dx fs =>
  obtain ⟨d,z,ne,e,mA,⟨od,es,ep,j,c⟩,r⟩:=x;exact ⟨l _ d,z,ne,k _ _ (.inl rfl) e,mA,⟨od,es,ep,k _ _ (.inr d) j,c⟩,r⟩
 | own y=>obtain ⟨g,e⟩:=x;exact ⟨g,k _ _ (.inl rfl) e⟩
 | xd fs=>obtain ⟨mA,⟨od,es,ep,e,c⟩,r⟩:=x;exact ⟨mA,⟨od,es,ep,k _ _ (.inl rfl) e,c⟩,r⟩
 | rng lo hi=>obtain ⟨t,u,v,e⟩:=x;exact ⟨t,u,v,k _ _ (.inl rfl) e⟩
 | frz g u ih=>obtain ⟨e,q⟩:=x;exact ⟨k _ _ (.inl rfl) e,ih q⟩
 | tbl ps =>
  have e:h.get? a=some { cls:=.none,data:=.fields ps }:=x;show h'.get? a=some { cls:=.none,data:=.fields ps };exact k a _ (.inl rfl) e
 | met f y =>
  have e:h.get? a=some (PySem.W.methodObj (.ref f) (.ref y)):=x;show h'.get? a=some (PySem.W.methodObj (.ref f) (.ref y));exact k a _ (.inl rfl) e
 | ext φ=>obtain ⟨p,⟨o,e⟩,st⟩:=x;exact ⟨st _ _ p fun o q=>k _ _ (.inl rfl) q,⟨o,k _ _ (.inl rfl) e⟩,st⟩
theorem HOk.lt (x:HOk P w H h) (e:H a=some o):a<h.objs.size:=(x a o e).lt
theorem HOk.fresh (x:HOk P w H h) (e:h.objs.size<=a):H a=none:=by
 cases q:H a with
 | none=>rfl
 | some u=>exact absurd (yj (x.lt q) e) (Yy _)
theorem HOk.kept (x:HOk P w H h) (k:∀ b u,h.get? b=some u->h'.get? b=some u):HOk P w H h':=fun a o e =>
 (x a o e).stay (fun b u _ q=>k b u q) (fun _ q=>q) fun _ _ q=>q
theorem HOk.laid (x:HOk P w H h) (k:∀ b u,h.get? b=some u->h'.get? b=some u) (g:h.objs.size<=a) (new:ObjOk P w (upd H a o) h' a o):HOk P w (upd H a o) h':=fun b u e=>by
 have f:=x.fresh g;by_cases d:b=a
 ·subst d;rw [qb] at e;cases e;exact new
 ·rw [qf d] at e;exact (x b u e).stay (fun c v _ q=>k c v q) (fun c q=>by rw [qf (qH q f)];exact q) fun c xs q=>by rw [qf (qH q f)];exact q
end
def Rd (H:Hp) (a:Addr) (u:HO):Prop:=H a=some u\/∃ o,H a=some (.frz o u)
theorem Rd.ok {u:HO} (r:Rd H a u) (x:HOk P w H h):ObjOk P w H h a u:=by
 rcases r with r | ⟨o,r⟩
 ·exact x a u r
 ·obtain ⟨_,q⟩:=x a _ r;exact q
def Mut:Option HO->Prop
 | some (.lst _)=>True
 | some (.dK _)=>True
 | some (.dT _)=>True
 | some (.set _ _)=>True
 | some (.ins _ _ _)=>True
 | some (.ext _)=>True
 | _=>False
section
variable {P:Program} {w:World} {H:Hp} {h h':Heap} {x e:Addr} {o':HO}
theorem HOk.write (ok:HOk P w H h) (i:Mut (H x)) (l:e=x\/H e=some (.own x)) (k:∀ b u,b≠e->h.get? b=some u->h'.get? b=some u) (j:∃ u,h'.get? e=some u)
  (new:ObjOk P w (upd H x o') h' x o'):HOk P w (upd H x o') h':=fun b u q=>by
 have d:∀ c y,H c=some (.own y)->c≠x:=fun c y r z=>by subst z;rw [r] at i;exact i
 have f:∀ c xs,H c=some (.tup xs)->c≠x:=fun c xs r z=>by subst z;rw [r] at i;exact i
 by_cases g:b=x
 ·subst g;rw [qb] at q;cases q;exact new
 ·rw [qf g] at q;by_cases a:b=e
  ·have m:H b=some (.own x):=by
    rcases l with z | z
    ·exact absurd (a.trans z) g
    ·rw [a];exact z
   rw [q] at m;cases m;obtain ⟨v,hv⟩:=j;exact ⟨v,by rw [a];exact hv⟩
  ·refine (ok b u q).stay (fun c v hc r=>k c v ?_ r) (fun c r=>by rw [qf (d c b r)];exact r) fun c xs r=>by rw [qf (f c xs r)];exact r
   rcases hc with rfl | hc
   ·exact a
   ·rintro rfl;rcases l with z | z
    ·exact d c b hc z
    ·rw [hc] at z;cases z;exact g rfl
end
structure Un (fs ex:List Addr) (H H':Hp) (h h':Heap):Prop where
 keep:∀ b o,h.get? b=some o->H b=none->b∉fs->b∉ex->h'.get? b=some o
 slot:∀ b o,h.get? b=some o->H b=none->b∈fs->b∉ex->∃ sl,h'.get? b=some { o with slots:=sl }
 free:∀ b o,h.get? b=some o->H b=none->b∉ex->H' b=none
 there:∀ b o,h.get? b=some o->b∉ex->∃ o',h'.get? b=some o'
 tups:∀ b xs,H b=some (.tup xs)->H' b=some (.tup xs)
 frzs:∀ b o u,H b=some (.frz o u)->H' b=some (.frz o u)
 tbls:∀ b ps,H b=some (.tbl ps)->∃ more,H' b=some (.tbl (ps++more))
section
variable {fs fs' ex ex':List Addr} {H H1 H2:Hp} {h h1 h2 h':Heap} {a x e:Addr} {o:HO}
theorem Un.any (u:Un fs ex H H1 h h1) {a:Obj} (q:h.get? b=some a) (n:H b=none) (d:b∉ex):∃ e,h1.get? b=some { a with slots:=e }:=by
 by_cases c:b∈fs
 ·exact u.slot b a q n c d
 ·exact ⟨a.slots,u.keep b a q n c d⟩
theorem Un.kept (k:∀ b u,h.get? b=some u->h'.get? b=some u):Un fs ex H H h h':=
 ⟨fun b a q _ _ _=>k b a q,fun b a q _ _ _=>⟨a.slots,k b a q⟩,fun _ _ _ n _=>n,fun b a q _=>⟨a,k b a q⟩,fun _ _ q=>q,fun _ _ _ q=>q,fun _ ps q=>⟨#[],by rw [q];simp⟩⟩
theorem Un.refl:Un fs ex H H h h:=Un.kept fun _ _ q=>q
theorem Un.laid (k:∀ b u,h.get? b=some u->h'.get? b=some u) (d:h.objs.size<=a) (c:H a=none):Un fs ex H (upd H a o) h h' where
 keep:=fun b u q _ _ _=>k b u q
 slot:=fun b u q _ _ _=>⟨u.slots,k b u q⟩
 free:=fun b u q n _=>by rw [qf (yI (yj (yH q) d))];exact n
 there:=fun b u q _=>⟨u,k b u q⟩
 tups:=fun b xs q=>by rw [qf (qH q c)];exact q
 frzs:=fun b u xs q=>by rw [qf (qH q c)];exact q
 tbls:=fun b ps q=>⟨#[],by rw [qf (qH q c),q];simp⟩
theorem Un.write (c:Mut (H x)) (j:e=x\/H e=some (.own x)) (k:∀ b u,b≠e->h.get? b=some u->h'.get? b=some u) (d:∃ u,h'.get? e=some u):Un fs ex H (upd H x o) h h':=by
 have i:∀ b,H b=none->b≠x:=fun b n z=>by subst z;rw [n] at c;exact c
 have g:∀ b,H b=none->b≠e:=fun b n z=>by
  subst z;rcases j with r | r
  ·exact i b n r
  ·rw [n] at r;cases r
 have f:∀ b u,H b=some u->¬ Mut (some u)->b≠x:=fun b u q l z=>by subst z;rw [q] at c;exact l c
 refine ⟨fun b u q n _ _=>k b u (g b n) q,fun b u q n _ _=>⟨u.slots,k b u (g b n) q⟩,fun b u q n _=>by rw [qf (i b n)];exact n,fun b u q _=>?_,
  fun b xs q=>by rw [qf (f b _ q fun z=>z)];exact q,fun b u xs q=>by rw [qf (f b _ q fun z=>z)];exact q,fun b ps q=>⟨#[],by rw [qf (f b _ q fun z=>z),q];simp⟩⟩
 by_cases a:b=e
 ·subst a;exact d
 ·exact ⟨u,k b u a q⟩
end
noncomputable def trk (h:Heap) (H:Hp):List Addr:=(List.range h.objs.size).filter fun a=>(H a).isSome
noncomputable def qez (h:Heap) (H:Hp):Heap:=PySem.W.hideAll h (trk h H)
theorem hidT_size (h:Heap) (H:Hp):(qez h H).objs.size=h.objs.size:=PySem.W.hideAll_size _ _
theorem hidT_get {o:Obj} (e:h.get? b=some o) (n:H b=none):(qez h H).get? b=some o:=
 PySem.W.hideAll_get _ e fun a=>by
  have q:(H b).isSome=true:=(yp.mp a).2;rw [n] at q;simp at q
theorem of_hidT {o:Obj} (e:(qez h H).get? b=some o):h.get? b=some o/\H b=none:=by
 have a:h.get? b=some o:=PySem.W.of_hideAll (trk h H) e;refine ⟨a,?_⟩
 cases q:H b with
 | none=>rfl
 | some x =>
  have c:b∈trk h H:=yp.mpr ⟨YT.mpr (yH a),by simp [q]⟩;have z:(qez h H).get? b=none:=PySem.W.hideAll_none (trk h H) c;rw [z] at e;cases e
noncomputable def allNews (g h:Heap) (L:Addr):List (Addr×Obj):=(List.range h.objs.size).filterMap fun a=>if a=L\/(g.get? a).isSome=true then none else (h.get? a).map fun o=>(a,o)
noncomputable def rest (g h:Heap) (L d:Addr):List (Addr×Obj):=(allNews g h L).filter fun p=>decide (p.1≠d)
structure Mod (K:yg) (mg:Str->Option Value) (base:Heap):Prop where
 kin:K.In base
 glob:base.Ns mainGlobals mg
 blt:∃ mb,base.Ns builtinsNs mb/\∀ x:Str,x≠"__name__"->mb x=bootBuiltins x
 nolimit:base.NoLimit
structure Cx where
 prog:Program
 w:World
 K:yg
 mg:Str->Option Value
 base:Heap
 A:Around
 N:List Str
 s₀:Shared
 H₀:Hp
 env:Env
 outer:List Env
 stack:List Env
 ex:List Addr
 fn:Str->Bool
 calm:Bool
 pn:List (Addr×Obj)
 xe:Value->Shared->Prop
noncomputable def frs (l:List Env):List Addr:=l.filterMap (·.frame)
noncomputable abbrev Cx.fs (X:Cx):List Addr:=frs X.outer
def Vis (sc:Scope) (x:Str):Prop:=sc.names.lookup x=some .local\/sc.names.lookup x=some .cell\/sc.names.lookup x=some .free
def Loc (sc:Scope) (x:Str):Prop:=sc.names.lookup x=some .local\/sc.names.lookup x=some .cell
def Look (env:Env) (h:Heap) (m:Str->Option Value) (x:Str) (u:Value):Prop:=
 (env.kindOf x=some .local/\m x=some u)\/((env.kindOf x=some .cell\/env.kindOf x=some .free)/\∃ c,env.cells.lookup x=some c/\h.IsCell c (some u))
structure Cx.Ok (X:Cx):Prop where
 mod:Mod X.K X.mg X.base
 kind:X.env.scope.kind=.function
 glob:X.env.globals=mainGlobals
 blt:X.env.builtins=builtinsNs
 above:X.s₀.heap.objs.size<=X.env.locals
 inj:∀ x y c,X.env.cells.lookup x=some c->X.env.cells.lookup y=some c->x=y
 has:∀ x,(X.env.kindOf x=some .cell\/X.env.kindOf x=some .free)->∃ c,X.env.cells.lookup x=some c
 cab:∀ x c,X.fn x=true->X.env.cells.lookup x=some c->X.s₀.heap.objs.size<=c
 hd:X.calm=true->X.A.handled=none
 frames:X.A.frames=some X.stack
 stk:X.stack=X.outer\/(X.stack=X.env::X.outer/\X.env.frame=some X.env.locals)
 exf:∀ b∈X.ex,b≠X.env.locals/\∀ x c,X.env.cells.lookup x=some c->c≠b
 bs:∀ b o,X.base.get? b=some o->X.s₀.heap.get? b=some o/\X.H₀ b=none
 bsz:X.base.objs.size<=X.s₀.heap.objs.size
 noex:∀ b o,X.base.get? b=some o->b∉X.ex
 exfs:∀ b∈X.ex,b∉X.fs
 funs:X.s₀.heap.FunFrames X.base X.outer
 frf:∀ b∈X.fs,X.H₀ b=none
structure Inv (X:Cx) (pins:List (Addr×Obj)) (σ:List (Option V)) (H:Hp) (s:Shared):Prop where
 ok:X.Ok
 os:s.os=X.s₀.os
 bare:AllBare s.gens
 base:Un X.fs X.ex X.H₀ H X.s₀.heap s.heap
 loc:∃ m,s.heap.Ns X.env.locals m/\∀ (i:Nat) (x:Str) (v:V),X.N[i]?=some x->σ[i]?=some (some v)->Vis X.env.scope x->∃ u,RelV v u/\Look X.env s.heap m x u
 cell:∀ x c,X.env.cells.lookup x=some c->∃ v,s.heap.IsCell c v
 free:H X.env.locals=none
 freeC:∀ x c,X.env.cells.lookup x=some c->H c=none
 pin:∀ p∈X.pn++pins,s.heap.get? p.1=some p.2/\H p.1=none/\p.1≠X.env.locals/\p.1∉X.fs/\∀ v,p.2.data≠.cell v
 hok:HOk X.prog X.w H s.heap
 len:σ.length=X.N.length
section
variable {X:Cx} {pins:List (Addr×Obj)} {σ:List (Option V)} {H H':Hp} {s:Shared} {h':Heap}
theorem Cx.Ok.nofr (ok:X.Ok) {o:Obj} (e:X.base.get? b=some o):b∉X.fs:=fun a=>by
 have:=(ok.funs.mem a).1;rw [e] at this;cases this
theorem Inv.bs (I:Inv X pins σ H s):∀ b o,X.base.get? b=some o->s.heap.get? b=some o/\H b=none:=fun b o e =>
 ⟨I.base.keep b o (I.ok.bs b o e).1 (I.ok.bs b o e).2 (I.ok.nofr e) (I.ok.noex b o e),I.base.free b o (I.ok.bs b o e).1 (I.ok.bs b o e).2 (I.ok.noex b o e)⟩
theorem Inv.bk (I:Inv X pins σ H s):∀ b o,X.base.get? b=some o->s.heap.get? b=some o:=fun b o e=>(I.bs b o e).1
theorem Inv.mod (I:Inv X pins σ H s):Mod X.K X.mg X.base:=I.ok.mod
theorem Inv.kIn (I:Inv X pins σ H s):X.K.In s.heap:=I.ok.mod.kin.keeps I.bk
theorem Inv.lt (I:Inv X pins σ H s):X.env.locals<s.heap.objs.size:=let ⟨_,hn,_⟩:=I.loc;hn.lt
theorem Inv.sz (I:Inv X pins σ H s):X.s₀.heap.objs.size<=s.heap.objs.size:=yi I.ok.above (Yc I.lt)
theorem Inv.nofs (I:Inv X pins σ H s) (h:s.heap.objs.size<=a):a∉X.fs:=fun b=>by
 obtain ⟨_,o,c,_⟩:=I.ok.funs.mem b;exact absurd (yj (yH c) (yi I.sz h)) (Yy _)
theorem Inv.cne (I:Inv X pins σ H s):∀ x c,X.env.cells.lookup x=some c->c≠X.env.locals:=fun x c e z=>by
 obtain ⟨v,o,f,d⟩:=I.cell x c e;obtain ⟨m,⟨g,es,ep,b,a,_⟩,_⟩:=I.loc;rw [z,b] at f;cases f;rw [a] at d;cases d
theorem Inv.funs (I:Inv X pins σ H s):s.heap.FunFrames X.base X.outer:=by
 have all:∀ (l:List Env),(∀ b∈frs l,b∈X.fs)->X.s₀.heap.FunFrames X.base l->s.heap.FunFrames X.base l:=by
  intro l
  induction l with
  | nil=>intro _ _;trivial
  | cons env r ih =>
   intro f hl;obtain ⟨h,⟨L,o,d,i,j,g⟩,m⟩:=hl;have a:L∈X.fs:=f L (by unfold frs;rw [Xs,d];exact yN);obtain ⟨n,e⟩:=I.base.slot L o j (I.ok.frf L a) a fun z=>I.ok.exfs L z a;exact ⟨h,⟨L,_,d,i,e,g⟩,ih (fun b c=>f b (by unfold frs;rw [Xs,d];exact yz _ c)) m⟩
 exact all X.outer (fun _ c=>c) I.ok.funs
theorem Inv.stack (I:Inv X pins σ H s):s.heap.FunFrames X.base X.stack:=by
 rcases I.ok.stk with e | ⟨e,hf⟩
 ·rw [e];exact I.funs
 ·rw [e];obtain ⟨m,a,_⟩:=I.loc;refine .cons (by rw [I.ok.kind];decide) hf a ?_ I.funs;exact Heap.get?_none_of_le (yi I.ok.bsz I.ok.above)
theorem Inv.stkSub (I:Inv X pins σ H s):∀ b∈frs X.stack,b∈X.env.locals::X.fs:=fun b a=>by
 rcases I.ok.stk with e | ⟨e,hf⟩
 ·rw [e] at a;exact yz _ a
 ·rw [e] at a;unfold frs at a;rw [Xs,hf] at a;exact a
theorem Inv.stkFree (I:Inv X pins σ H s):∀ b∈frs X.stack,H b=none:=fun b hb=>by
 rcases yv.mp (I.stkSub b hb) with e | hb
 ·rw [e];exact I.free
 ·obtain ⟨_,o,a,_⟩:=I.ok.funs.mem hb;exact I.base.free b o a (I.ok.frf b hb) fun z=>I.ok.exfs b z hb
theorem Inv.step (I:Inv X pins σ H s)
  (f:∀ b∈ch,(b∈X.ex\/X.s₀.heap.objs.size<=b)/\b≠X.env.locals/\(∀ x c,X.env.cells.lookup x=some c->c≠b)/\∀ p∈X.pn++pins,p.1≠b)
  (keep:∀ b o,b≠X.env.locals->b∉X.fs->b∉ch->s.heap.get? b=some o->H b=none->h'.get? b=some o)
  (t:∀ b o,b≠X.env.locals->b∈X.fs->b∉ch->s.heap.get? b=some o->H b=none->∃ N,h'.get? b=some { o with slots:=N }) (free:∀ b o,b∉ch->s.heap.get? b=some o->H b=none->H' b=none)
  (A:∀ b o,b∉ch->s.heap.get? b=some o->∃ G,h'.get? b=some G)
  (K:∀ b xs,H b=some (.tup xs)->H' b=some (.tup xs)) (D:∀ b o u,H b=some (.frz o u)->H' b=some (.frz o u)) (J:∀ b ps,H b=some (.tbl ps)->∃ E,H' b=some (.tbl (ps++E)))
  (ns:∀ m,s.heap.Ns X.env.locals m->h'.Ns X.env.locals m) (M:HOk X.prog X.w H' h') (T:AllBare g') :
  Inv X pins σ H' { s with heap:=h',gens:=g',drawn:=d',toks:=t' }:=by
 have F:∀ b o,X.s₀.heap.get? b=some o->b≠X.env.locals:=fun b o e=>yI (yj (yH e) I.ok.above)
 have j:∀ b o,X.s₀.heap.get? b=some o->b∉X.ex->b∉ch:=fun b o e a y=>by
  rcases (f b y).1 with z | z
  ·exact a z
  ·exact absurd (yj (yH e) z) (Yy _)
 have cellK:∀ x c,X.env.cells.lookup x=some c->∀ v,s.heap.IsCell c v->h'.IsCell c v:=fun x c e v ⟨o,B,L⟩=>by
  have g:c∉ch:=fun z=>(f c z).2.2.1 x c e rfl;by_cases hc:c∈X.fs
  ·obtain ⟨N,q⟩:=t c o (I.cne x c e) hc g B (I.freeC x c e);exact ⟨_,q,L⟩
  ·exact ⟨o,keep c o (I.cne x c e) hc g B (I.freeC x c e),L⟩
 refine ⟨I.ok,I.os,T,⟨fun b o e n y a=>?_,fun b o e n y a=>?_,fun b o e n a=>?_,fun b o e a=>?_,fun b xs e=>K b xs (I.base.tups b xs e),fun b o xs e=>D b o xs (I.base.frzs b o xs e),fun b ps e=>?_⟩,?_,fun x c e=>?_,?_,fun x c e=>?_,fun p P=>?_,M,I.len⟩
 ·exact keep b o (F b o e) y (j b o e a) (I.base.keep b o e n y a) (I.base.free b o e n a)
 ·obtain ⟨N,h⟩:=I.base.slot b o e n y a;obtain ⟨O,C⟩:=t b _ (F b o e) y (j b o e a) h (I.base.free b o e n a);exact ⟨O,C⟩
 ·obtain ⟨G,h⟩:=I.base.there b o e a;exact free b G (j b o e a) h (I.base.free b o e n a)
 ·obtain ⟨G,h⟩:=I.base.there b o e a;exact A b G (j b o e a) h
 ·obtain ⟨W,h⟩:=I.base.tbls b ps e;obtain ⟨Y,C⟩:=J b _ h;exact ⟨W++Y,by rw [C,Array.append_assoc]⟩
 ·obtain ⟨m,U,hl⟩:=I.loc;refine ⟨m,ns m U,fun i x v h C S=>?_⟩;obtain ⟨u,r,l⟩:=hl i x v h C S;refine ⟨u,r,?_⟩;rcases l with l | ⟨k,c,e,z⟩
  ·exact .inl l
  ·exact .inr ⟨k,c,e,cellK x c e _ z⟩
 ·obtain ⟨v,z⟩:=I.cell x c e;exact ⟨v,cellK x c e v z⟩
 ·obtain ⟨m,⟨o,_,_,B,_⟩,_⟩:=I.loc;exact free _ o (fun z=>(f _ z).2.1 rfl) B I.free
 ·obtain ⟨v,o,B,L⟩:=I.cell x c e;exact free c o (fun z=>(f c z).2.2.1 x c e rfl) B (I.freeC x c e)
 ·obtain ⟨e,n,ne,R,d⟩:=I.pin p P;have g:p.1∉ch:=fun z=>(f p.1 z).2.2.2 p P rfl;exact ⟨keep p.1 p.2 ne R g e n,free p.1 p.2 g e n,ne,R,d⟩
theorem Inv.un (I:Inv X pins σ H s) (u:Un X.fs [] H H' s.heap h') (g:HOk X.prog X.w H' h'):Inv X pins σ H' { s with heap:=h',toks:=t' }:=by
 obtain ⟨m,⟨o,es,ep,h,r⟩,_⟩:=id I.loc;obtain ⟨q,i⟩:=u.any h I.free (by simp)
 exact I.step (g':=s.gens) (d':=s.drawn) (ch:=[]) (fun _ z=>nomatch z) (fun b o _ f _ e n=>u.keep b o e n f (by simp)) (fun b o _ f _ e n=>u.slot b o e n f (by simp)) (fun b o _ e n=>u.free b o e n (by simp)) (fun b o _ e=>u.there b o e (by simp)) u.tups u.frzs u.tbls (fun l j=>by
  obtain ⟨p,d,c,a,r'⟩:=j;rw [h] at a;cases a;exact ⟨_,d,c,i,r'⟩) g I.bare
theorem Inv.call (I:Inv X pins σ H s) (u:Un (frs X.stack) ch H H' s.heap h') (i:HOk X.prog X.w H' h') (q:AllBare g')
  (a:∀ b∈ch,(b∈X.ex\/X.s₀.heap.objs.size<=b)/\b≠X.env.locals/\(∀ x c,X.env.cells.lookup x=some c->c≠b)/\∀ p∈X.pn++pins,p.1≠b) :
  Inv X pins σ H' { s with heap:=h',gens:=g',drawn:=d',toks:=t' }:=by
 obtain ⟨m,⟨o,es,ep,j,r⟩,_⟩:=id I.loc;obtain ⟨A,h⟩:=u.any j I.free fun z=>(a _ z).2.1 rfl
 exact I.step (ch:=ch) a (fun b o h l hc e n=>u.keep b o e n (fun z=>(yv.mp (I.stkSub b z)).elim h l) hc) (fun b o _ _ hc e n=>u.any e n hc) (fun b o hc e n=>u.free b o e n hc) (fun b o hc e=>u.there b o e hc) u.tups u.frzs u.tbls (fun v t=>by
  obtain ⟨y,g,f,d,r'⟩:=t;rw [j] at d;cases d;exact ⟨_,g,f,h,r'⟩) i q
theorem Inv.turned (I:Inv X pins σ H s) (k:∀ b o,b≠it->s.heap.get? b=some o->h'.get? b=some o) (j:H it=none) (d:it≠X.env.locals)
  (h1:it∈X.ex\/X.s₀.heap.objs.size<=it) (f:∀ x c,X.env.cells.lookup x=some c->c≠it) (g:∀ p∈X.pn++pins,p.1≠it):Inv X pins σ H { s with heap:=h',toks:=t' }:=by
 have a:∀ b u,H b=some u->b≠it:=fun b u e z=>by rw [z,j] at e;cases e
 refine I.step (g':=s.gens) (d':=s.drawn) (ch:=[it]) (fun b h=>?_) (fun b o _ _ hc e _=>k b o (fun z=>hc (by simp [z])) e) (fun b o _ _ hc e _=>⟨o.slots,k b o (fun z=>hc (by simp [z])) e⟩) (fun _ _ _ _ n=>n)
  (fun b o hc e=>⟨o,k b o (fun z=>hc (by simp [z])) e⟩) (fun _ _ e=>e) (fun _ _ _ e=>e) (fun b ps e=>⟨#[],by rw [e];simp⟩) (fun m i=>?_) (fun b u e=>?_) I.bare
 ·have e:b=it:=by simpa using h
  subst e;exact ⟨h1,d,f,g⟩
 ·obtain ⟨o,es,ep,l,r⟩:=i;exact ⟨o,es,ep,k _ o (Yh d) l,r⟩
 ·refine (I.hok b u e).stay (fun c v hc q=>k c v ?_ q) (fun _ q=>q) fun _ _ q=>q;rcases hc with z | z
  ·rw [z];exact a b u e
  ·exact a c _ z
theorem Inv.tok (I:Inv X pins σ H s) (t:Nat):Inv X pins σ H { s with toks:=t }:=I.un (h':=s.heap) (t':=t) Un.refl I.hok
theorem Inv.kept (I:Inv X pins σ H s) (k:∀ b u,s.heap.get? b=some u->h'.get? b=some u):Inv X pins σ H { s with heap:=h',toks:=t' }:=I.un (Un.kept k) (I.hok.kept k)
theorem Inv.laid (I:Inv X pins σ H s) (k:∀ b u,s.heap.get? b=some u->h'.get? b=some u) (c:s.heap.objs.size<=a) (new:ObjOk X.prog X.w (upd H a o) h' a o) :
  Inv X pins σ (upd H a o) { s with heap:=h',toks:=t' }:=I.un (Un.laid k c (I.hok.fresh c)) (I.hok.laid k c new)
theorem Inv.write {x e:Addr} (I:Inv X pins σ H s) (d:Mut (H x)) (c:e=x\/H e=some (.own x)) (k:∀ b u,b≠e->s.heap.get? b=some u->h'.get? b=some u) (a:∃ u,h'.get? e=some u)
  (new:ObjOk X.prog X.w (upd H x o) h' x o):Inv X pins σ (upd H x o) { s with heap:=h',toks:=t' }:=I.un (Un.write d c k a) (I.hok.write d c k a new)
theorem Inv.weak {a:List (Option V)} (I:Inv X pins σ H s) (hl:a.length=σ.length) (w:∀ (i:Nat) v,a[i]?=some (some v)->σ[i]?=some (some v)):Inv X pins a H s:=
 ⟨I.ok,I.os,I.bare,I.base,let ⟨m,hn,hl'⟩:=I.loc;⟨m,hn,fun i x v b c d=>hl' i x v b (w i v c) d⟩,I.cell,I.free,I.freeC,I.pin,I.hok,hl.trans I.len⟩
theorem Inv.pins_of {pins':List (Addr×Obj)} (I:Inv X pins σ H s) (h:∀ p∈pins',s.heap.get? p.1=some p.2/\H p.1=none/\p.1≠X.env.locals/\p.1∉X.fs/\∀ v,p.2.data≠.cell v):Inv X pins' σ H s:=
 ⟨I.ok,I.os,I.bare,I.base,I.loc,I.cell,I.free,I.freeC,fun p a=>(yD.mp a).elim (fun z=>I.pin p (yO _ z)) (h p),I.hok,I.len⟩
theorem qbO (e:N.Nodup) (a:N[i]?=some x) (b:N[j]?=some x):i=j:=by
 obtain ⟨h1,c⟩:=yc.mp a;obtain ⟨f,d⟩:=yc.mp b;exact (List.getElem_inj e).mp (c.trans d.symm)
theorem qca {Q:Unit->Shared->Prop} (I:Inv X pins σ H s) (hN:X.N.Nodup) (P:X.N[i]?=some x) (t:Loc X.env.scope x) (r:RelV v u)
  (h:∀ s',Inv X pins (σ.set i (some v)) H s'->(∃ a,Heap.SameBut a s.heap s'.heap/\(a=X.env.locals\/X.env.cells.lookup x=some a))->Q () s') (hf:X.fn x=true\/X.env.scope.names.lookup x=some .local:=by first | exact .inl rfl | exact .inr rfl | assumption):wpAny M A (storeName X.env x u) Q E s:=by
 obtain ⟨m,Y,hl⟩:=id I.loc;have O:(X.env.scope.kind==.class||(X.env.scope.kind==.module&&X.env.locals != X.env.globals))=false:=by rw [I.ok.kind];rfl
 have D:i<σ.length:=by rw [I.len];exact (yc.mp P).1
 have cne:=I.cne
 have l:∀ {a:Addr} {h':Heap},(∃ o,s.heap.get? a=some o/\H a=none)->Heap.SameBut a s.heap h'->HOk X.prog X.w H h':=fun {a h'} ha f b ob e=>by
  obtain ⟨_,_,B⟩:=ha;refine (I.hok b ob e).stay (fun c U hc q=>(f.2 c ?_).trans q) (fun _ q=>q) fun _ _ q=>q;rintro rfl;rcases hc with rfl | hc
  ·rw [B] at e;cases e
  ·rw [B] at hc;cases hc
 rcases t with hk | hk
 ·refine wpAny_storeName_local hk Y (fun h' Z f=>?_) O;obtain ⟨oL,_,_,aa,_⟩:=id Y;refine h _ ⟨I.ok,I.os,I.bare,⟨fun b o e n F t=>?_,fun b o e n F t=>?_,I.base.free,fun b o e t=>?_,I.base.tups,I.base.frzs,I.base.tbls⟩,⟨_,Z,fun j y v' g C W=>?_⟩,fun y c e=>?_,I.free,I.freeC,fun p hp=>?_,l ⟨oL,aa,I.free⟩ f,by simpa using I.len⟩ ⟨_,f,.inl rfl⟩
  ·exact (f.2 b (yI (yj (yH e) I.ok.above))).trans (I.base.keep b o e n F t)
  ·obtain ⟨sl,g⟩:=I.base.slot b o e n F t;exact ⟨sl,(f.2 b (yI (yj (yH e) I.ok.above))).trans g⟩
  ·obtain ⟨o',g⟩:=I.base.there b o e t;exact ⟨o',(f.2 b (yI (yj (yH e) I.ok.above))).trans g⟩
  ·by_cases J:j=i
   ·subst J;rw [P] at g;cases g;rw [xV D] at C;cases C;exact ⟨u,r,.inl ⟨hk,by simp⟩⟩
   ·rw [xl (Yh J)] at C;obtain ⟨u',r',q⟩:=hl j y v' g C W;refine ⟨u',r',?_⟩;rcases q with ⟨k,e⟩ | ⟨k,c,e,z⟩
    ·refine .inl ⟨k,?_⟩;have:y≠x:=fun e=>J (qbO hN g (e ▸ P));simp [this,e]
    ·exact .inr ⟨k,c,e,z.sameBut f (cne y c e)⟩
  ·obtain ⟨U,z⟩:=I.cell y c e;exact ⟨U,z.sameBut f (cne y c e)⟩
  ·obtain ⟨e,n,ne,nf,d⟩:=I.pin p hp;exact ⟨(f.2 p.1 ne).trans e,n,ne,nf,d⟩
 ·have G:X.fn x=true:=by
   rcases hf with z | z
   ·exact z
   ·rw [z] at hk;cases hk
  obtain ⟨c,hc⟩:=I.ok.has x (.inl hk);obtain ⟨U,z⟩:=I.cell x c hc;refine wpAny_storeName_cell I.ok.kind hk hc z (fun h' K f=>?_);obtain ⟨oc,R,S⟩:=id z;refine h { s with heap:=h' } ⟨I.ok,I.os,I.bare,⟨fun b o e n F t=>?_,fun b o e n F t=>?_,I.base.free,fun b o e t=>?_,I.base.tups,I.base.frzs,I.base.tbls⟩,⟨m,Y.sameBut f (Yh (cne x c hc)),fun j y v' g C W=>?_⟩,fun y T e=>?_,I.free,I.freeC,fun p hp=>?_,l ⟨oc,R,I.freeC x c hc⟩ f,by simpa using I.len⟩ ⟨c,f,.inr hc⟩
  ·exact (f.2 b (yI (yj (yH e) (I.ok.cab x c G hc)))).trans (I.base.keep b o e n F t)
  ·obtain ⟨sl,g⟩:=I.base.slot b o e n F t;exact ⟨sl,(f.2 b (yI (yj (yH e) (I.ok.cab x c G hc)))).trans g⟩
  ·obtain ⟨o',g⟩:=I.base.there b o e t;exact ⟨o',(f.2 b (yI (yj (yH e) (I.ok.cab x c G hc)))).trans g⟩
  ·by_cases J:j=i
   ·subst J;rw [P] at g;cases g;rw [xV D] at C;cases C;exact ⟨u,r,.inr ⟨.inl hk,c,hc,K⟩⟩
   ·rw [xl (Yh J)] at C;obtain ⟨u',r',q⟩:=hl j y v' g C W;refine ⟨u',r',?_⟩;rcases q with q | ⟨k,T,e,z'⟩
    ·exact .inl q
    ·refine .inr ⟨k,T,e,z'.sameBut f ?_⟩;rintro rfl;exact J (qbO hN g (I.ok.inj _ _ _ e hc ▸ P))
  ·by_cases L:T=c
   ·subst L;exact ⟨_,K⟩
   ·obtain ⟨w2,z2⟩:=I.cell y T e;exact ⟨w2,z2.sameBut f L⟩
  ·obtain ⟨e,n,ne,nf,d⟩:=I.pin p hp;refine ⟨(f.2 p.1 ?_).trans e,n,ne,nf,d⟩;intro q;rw [q,R] at e;have q':oc=p.2:=ym e;exact d U (by rw [<- q'];exact S)
theorem qaQ {Q:Unit->Shared->Prop} (I:Inv X pins σ H s) (b:X.N.Nodup) (d:X.N[i]?=some x) (e:Loc X.env.scope x) (r:RelV v u)
  (h:∀ s',Inv X pins (σ.set i (some v)) H s'->Q () s') (c:X.fn x=true\/X.env.scope.names.lookup x=some .local:=by first | exact .inl rfl | exact .inr rfl | assumption):wpAny M A (storeName X.env x u) Q E s:=
 qca I b d e r (fun s' a _=>h s' a) c
theorem Inv.call' (I:Inv X pins σ H s) (g:s'.os=s.os) (u:Un (frs X.stack) ch H H' s.heap s'.heap) (d:HOk X.prog X.w H' s'.heap) (f:AllBare s'.gens)
  (a:∀ b∈ch,(b∈X.ex\/X.s₀.heap.objs.size<=b)/\b≠X.env.locals/\(∀ x c,X.env.cells.lookup x=some c->c≠b)/\∀ p∈X.pn++pins,p.1≠b):Inv X pins σ H' s':=by
 obtain ⟨h',g',d',t',h⟩:=s';have e:h=s.os:=g;subst e;exact I.call (g':=g') (t':=t') (d':=d') u d f a
end
abbrev XK:=Value->Option Addr->Hp->Prop
noncomputable abbrev St:=List (Option V)
abbrev VK:=V->Hp->Prop
abbrev TE:=St->Hp->VK->Prop
abbrev TT:=St->Hp->(Bool->Hp->Prop)->Prop
abbrev TA:=St->Hp->(List V->Hp->Prop)->Prop
structure Ends where
 nx:St->Hp->Prop
 rt:VK
 bk:St->Hp->Prop:=fun _ _=>False
 ct:St->Hp->Prop:=fun _ _=>False
abbrev TS:=Ends->St->Hp->Prop
def EP (X:Cx) (pins:List (Addr×Obj)) (σ:St) (Q:VK) (u:Value) (s':Shared):Prop:=∃ v H',Inv X pins σ H' s'/\RelV v u/\Q v H'
def TP (X:Cx) (pins:List (Addr×Obj)) (σ:St) (Q:Bool->Hp->Prop) (b:Bool) (s':Shared):Prop:=∃ H',Inv X pins σ H' s'/\Q b H'
def AP (X:Cx) (pins:List (Addr×Obj)) (σ:St) (Q:List V->Hp->Prop) (us:List Value) (s':Shared):Prop:=∃ vs H',Inv X pins σ H' s'/\Vals vs us/\Q vs H'
def SP (X:Cx) (pins:List (Addr×Obj)) (D:Ends) (f:Flow) (s':Shared):Prop:=
 match f with
 | .next=>∃ a H',Inv X pins a H' s'/\D.nx a H'
 | .brk=>∃ a H',Inv X pins a H' s'/\D.bk a H'
 | .cont=>∃ a H',Inv X pins a H' s'/\D.ct a H'
 | .ret u=>∃ v a H',Inv X pins a H' s'/\RelV v u/\D.rt v H'
def PE (X:Cx) (e:Expr) (t:TE):Prop:=
 ∀ (pins:List (Addr×Obj)) (s:Shared) (σ:St) (H:Hp) (Q:VK),Inv X pins σ H s->t σ H Q->wpAny (model X.prog X.w) X.A (eval e X.env) (EP X pins σ Q) X.xe s
def PT (X:Cx) (e:Expr) (t:TT):Prop:=
 ∀ (pins:List (Addr×Obj)) (s:Shared) (σ:St) (H:Hp) (Q:Bool->Hp->Prop),Inv X pins σ H s->t σ H Q->wpAny (model X.prog X.w) X.A (isTrue e X.env (eval e X.env)) (TP X pins σ Q) X.xe s
def PW (X:Cx) (e:Expr) (t:TT):Prop:=
 ∀ (a:Sem Value) (pins:List (Addr×Obj)) (s:Shared) (σ:St) (H:Hp) (Q:Bool->Hp->Prop),Inv X pins σ H s->t σ H Q->wpAny (model X.prog X.w) X.A (isTrue e X.env a) (TP X pins σ Q) X.xe s
theorem PW.pt {t:TT} (h:PW X e t):PT X e t:=h _
def PA (X:Cx) (es:List Expr) (t:TA):Prop:=
 ∀ (pos:Pos) (pins:List (Addr×Obj)) (s:Shared) (σ:St) (H:Hp) (Q:List V->Hp->Prop),Inv X pins σ H s->t σ H Q->wpAny (model X.prog X.w) X.A (spliced (backTo pos (starEach es X.env))) (AP X pins σ Q) X.xe s
def PS (X:Cx) (st:Stmt) (t:TS):Prop:=
 ∀ (pins:List (Addr×Obj)) (s:Shared) (σ:St) (H:Hp) (D:Ends),Inv X pins σ H s->t D σ H->wpAny (model X.prog X.w) X.A (exec st X.env) (SP X pins D) X.xe s
def PSs (X:Cx) (st:List Stmt) (t:TS):Prop:=
 ∀ (pins:List (Addr×Obj)) (s:Shared) (σ:St) (H:Hp) (D:Ends),Inv X pins σ H s->t D σ H->wpAny (model X.prog X.w) X.A (execs st X.env) (SP X pins D) X.xe s
theorem thn {t:Sem α} {Q b:α->Shared->Prop} (h:wpAny M A t Q E s) (c:∀ a s,Q a s->b a s):wpAny M A t b E s:=YF h c fun _ _ x=>x
section
variable {X:Cx}
def qf4 (i:Nat):TE:=fun σ H Q=>∃ v,σ[i]?=some (some v)/\Q v H
def tC (v:V):TE:=fun _ H Q=>Q v H
theorem pe_var (g:X.N[i]?=some x) (hv:Vis X.env.scope x) (f:(x==("__debug__":Str))=false:=by decide) (d:(x==("__classdict__":Str))=false:=by decide):PE X (.Name x pos) (qf4 i):=by
 intro pins s σ H Q I h;obtain ⟨v,e,h⟩:=h;obtain ⟨m,n,hl⟩:=I.loc;obtain ⟨u,r,l⟩:=hl i x v g e hv;have b:EP X pins σ Q u s:=⟨v,H,I,r,h⟩;rcases l with ⟨hk,j⟩ | ⟨hk,c,hc,a⟩
 ·exact wpAny_Name (wpAny_loadName_local I.ok.kind hk n j b) f
 ·rcases hk with hk | hk
  ·exact wpAny_Name (wpAny_loadName_cell I.ok.kind hk hc a b) f
  ·exact wpAny_Name (wpAny_loadName_free I.ok.kind hk hc a b d) f
theorem qh {i j pos}:PE X (.Constant (.int i) j pos) (tC (.int i)):=fun _ _ _ H _ I h=>wpAny_Constant_int ⟨.int i,H,I.tok _,⟨_,rfl⟩,h⟩
theorem jF {b j pos}:PE X (.Constant (.bool b) j pos) (tC (.bl b)):=fun _ _ _ H _ I h=>Constant_bool ⟨.bl b,H,I,rfl,h⟩
theorem zE {j pos}:PE X (.Constant .none j pos) (tC .non):=fun _ _ _ H _ I h=>Constant_none ⟨.non,H,I,rfl,h⟩
theorem jh {x j pos}:PE X (.Constant (.str x) j pos) (tC (.str x)):=fun _ _ _ H _ I h=>Calls.Constant_str ⟨.str x,H,I.tok _,⟨_,rfl⟩,h⟩
def Gl (X:Cx) (x:Str):Prop:=X.env.kindOf x=some .globalImplicit
theorem zH {Q:Value->Shared->Prop} (I:Inv X pins σ H s) (b:Gl X x) (c:X.mg x=some u) (h:Q u s)
  (a:(x==("__debug__":Str))=false:=by decide):wpAny (model X.prog X.w) X.A (eval (.Name x pos) X.env) Q E s:=
 Calls.Name_function_global I.ok.kind b (Calls.loadGlobal_global (by rw [I.ok.glob];exact I.mod.glob.keeps I.bk) c h) a
theorem zI {Q:Value->Shared->Prop} (I:Inv X pins σ H s) (c:Gl X x) (d:X.mg x=none) (hv:bootBuiltins x=some u) (h:Q u s)
  (e:x≠"__name__":=by decide) (b:(x==("__debug__":Str))=false:=by decide):wpAny (model X.prog X.w) X.A (eval (.Name x pos) X.env) Q E s:=by
 obtain ⟨f,h1,a⟩:=I.mod.blt;exact Calls.Name_function_global I.ok.kind c (Calls.loadGlobal_builtin (by rw [I.ok.glob];exact I.mod.glob.keeps I.bk) d (by rw [I.ok.blt];exact h1.keeps I.bk) ((a x e).trans hv) h) b
theorem qdK (b:Gl X x) (c:X.mg x=some u) (r:RelV v u) (a:(x==("__debug__":Str))=false:=by decide):PE X (.Name x pos) (tC v):=
 fun _ _ _ H _ I h=>zH I b c ⟨v,H,I,r,h⟩ a
theorem jT (b:Gl X x) (c:X.mg x=none) (hv:bootBuiltins x=some u) (r:RelV v u) (d:x≠"__name__":=by decide) (a:(x==("__debug__":Str))=false:=by decide):PE X (.Name x pos) (tC v):=
 fun _ _ _ H _ I h=>zI I b c hv ⟨v,H,I,r,h⟩ d a
variable {a b:Expr} {ta tb:TE} {pos:Pos}
def tB (t:TE):TT:=fun σ H Q=>t σ H fun x a=>∃ c,x=.bl c/\Q c a
theorem qY (h:PE X e t) (f:∀ a,isTrue e X.env a=(do let v <- a;standAt e.pos;holding [v] (truthy v)):=by intro _;rfl):PT X e (tB t):=by
 intro pins s σ H Q I hw;refine isTrue_plain (thn (h pins s σ H _ I hw) fun v j ⟨x,b,c,i,g⟩=>?_) (f _);obtain ⟨d,rfl,q⟩:=g;cases i;exact xG ⟨b,c,q⟩
variable {tA tB':TT} {rest:List Expr}
def qgf (t u:TT):TT:=fun σ H Q=>t σ H fun c a=>if c=true then u σ a Q else Q false a
def tOr (t u:TT):TT:=fun σ H Q=>t σ H fun c a=>if c=true then Q true a else u σ a Q
def qgg (t:TT):TT:=fun σ H Q=>t σ H fun c a=>Q (!c) a
theorem qbP (b:PT X a tA):PW X (.BoolOp .And [a] pos) tA:=by
 intro f pins s σ H Q I h;refine isTrue_and (thn (b pins s σ H Q I h) fun c d e=>?_)
 cases c with
 | true=>exact isTrue_and_nil e
 | false=>exact e
theorem qaL (b:PT X a tA):PW X (.BoolOp .Or [a] pos) tA:=by
 intro f pins s σ H Q I h;refine isTrue_or (thn (b pins s σ H Q I h) fun c d e=>?_)
 cases c with
 | false=>exact isTrue_or_nil e
 | true=>exact e
theorem qa8 (g:PT X a tA) (i:PW X (.BoolOp .And (b::rest) pos) tB'):PW X (.BoolOp .And (a::b::rest) pos) (qgf tA tB'):=by
 intro l pins s σ H Q I h;refine isTrue_and (thn (g pins s σ H _ I h) fun c j ⟨d,e,f⟩=>?_)
 cases c with
 | true=>exact i l pins j σ d Q e f
 | false=>exact ⟨d,e,f⟩
theorem qbQ (g:PT X a tA) (i:PW X (.BoolOp .Or (b::rest) pos) tB'):PW X (.BoolOp .Or (a::b::rest) pos) (tOr tA tB'):=by
 intro l pins s σ H Q I h;refine isTrue_or (thn (g pins s σ H _ I h) fun c j ⟨d,e,f⟩=>?_)
 cases c with
 | true=>exact ⟨d,e,f⟩
 | false=>exact i l pins j σ d Q e f
theorem q8 (d:PT X a tA):PT X (.UnaryOp .Not a pos) (qgg tA):=by
 intro pins s σ H Q I h;exact isTrue_not (d pins s σ H (fun c b=>Q (!c) b) I h)
def qfy (ta tb:TE):TE:=fun σ H Q=>ta σ H fun x a=>∃ c,x=.bl c/\if c=true then tb σ a Q else Q (.bl false) a
def tOrV (ta tb:TE):TE:=fun σ H Q=>ta σ H fun x a=>∃ c,x=.bl c/\if c=true then Q (.bl true) a else tb σ a Q
def tNotV (ta:TE):TE:=fun σ H Q=>ta σ H fun x a=>∃ c,x=.bl c/\Q (.bl (!c)) a
theorem qbB {op} (h:PE X a t):PE X (.BoolOp op [a] pos) t:=fun pins s σ H Q I hw=>BoolOp_one (h pins s σ H Q I hw)
theorem qbC (g:PE X a ta) (i:PE X (.BoolOp .And (b::rest) pos) tb):PE X (.BoolOp .And (a::b::rest) pos) (qfy ta tb):=by
 intro pins s σ H Q I h;refine BoolOp_and (thn (g pins s σ H _ I h) fun v l ⟨x,e,f,j,d⟩=>?_);obtain ⟨c,rfl,d⟩:=d;cases j;refine xG ?_
 cases c with
 | true=>exact i pins l σ e Q f d
 | false=>exact ⟨.bl false,e,f,rfl,d⟩
def tIf (t:TT) (ta tb:TE):TE:=fun σ H Q=>t σ H fun c a=>if c=true then ta σ a Q else tb σ a Q
theorem qc2 (hc:PT X c tA) (j:PE X a ta) (l:PE X b tb):PE X (.IfExp c a b pos) (tIf tA ta tb):=by
 intro pins s σ H Q I h;refine wpAny_IfExp (thn (hc pins s σ H _ I h) fun d i ⟨e,f,g⟩=>?_)
 cases d with
 | true=>exact j pins i σ e Q f g
 | false=>exact l pins i σ e Q f g
end
def SqL (K:yg) (H:Hp) (a:Addr) (xs:List V):Prop:=
 Rd H a (.lst xs) \/
  ∃ (o:Obj) (b:Array Value) (n:Nat),K.lookup a=some o/\o.cls=.type "list"/\o.dict=none/\o.data=.seq b n/\b.size<=sizeLine/\Vals xs b.toList
def SqT (K:yg) (H:Hp) (a:Addr) (xs:List V):Prop:=
 Rd H a (.tup xs) \/
  ∃ (o:Obj) (b:Array Value) (n:Nat),K.lookup a=some o/\o.cls=.type "tuple"/\o.data=.seq b n/\b.size<=sizeLine/\Vals xs b.toList
noncomputable def absV:Value->Option V
 | .none=>some .non
 | .bool b=>some (.bl b)
 | .int i _=>some (.int i)
 | .str x _=>some (.str x)
 | .bytes b _=>some (.byt b)
 | .float b _=>some (.flt b)
 | .ref a=>some (.ref a)
 | .type n=>some (.ty n)
 | _=>none
theorem RelV.abs {x:V} (r:RelV x u):absV u=some x:=by
 cases x with
 | non=>cases r;rfl
 | bl _=>cases r;rfl
 | int _=>obtain ⟨t,rfl⟩:=r;rfl
 | str _=>obtain ⟨t,rfl⟩:=r;rfl
 | byt _=>obtain ⟨t,rfl⟩:=r;rfl
 | flt _=>obtain ⟨t,rfl⟩:=r;rfl
 | ref _=>cases r;rfl
 | ty _=>cases r;rfl
theorem RelV.inj {x:V} (r:RelV x u) (q:RelV y u):x=y:=ym (r.abs.symm.trans q.abs)
theorem Vals.inj:∀ {xs ys:List V} {us:List Value},Vals xs us->Vals ys us->xs=ys
 | _,_,_,.nil,.nil=>rfl
 | _,_,_,.cons r t,.cons r' t'=>by rw [r.inj r',Vals.inj t t']
section
variable {X:Cx} {pins:List (Addr×Obj)} {σ:St} {H:Hp} {s:Shared} {a:Addr} {xs ys:List V}
theorem SqL.of {K:yg} (h:H a=some (.lst xs)):SqL K H a xs:=.inl (.inl h)
theorem SqT.of {K:yg} (h:H a=some (.tup xs)):SqT K H a xs:=.inl (.inl h)
theorem Inv.list (I:Inv X pins σ H s) (h:SqL X.K H a xs):∃ b:List Value,Vals xs b/\PlainL s.heap a b.toArray/\xs.length<=sizeLine:=by
 rcases h with h | ⟨o,b,n,hk,hc,hd,hs,hz,r⟩
 ·obtain ⟨z,b,n,r,e⟩:=h.ok I.hok;exact ⟨b,r,⟨_,n,e,rfl,rfl,rfl⟩,z⟩
 ·refine ⟨b.toList,r,⟨o,n,I.kIn a o hk,hc,hd,by simpa using hs⟩,?_⟩;have e:=r.length;simp only [xo] at e;omega
theorem Inv.tuple (I:Inv X pins σ H s) (h:SqT X.K H a xs):∃ b:List Value,Vals xs b/\IsTup s.heap a b.toArray/\xs.length<=sizeLine:=by
 rcases h with h | ⟨o,b,n,hk,hc,hs,hz,r⟩
 ·obtain ⟨z,b,r,p⟩:=h.ok I.hok;exact ⟨b,r,p,z⟩
 ·refine ⟨b.toList,r,⟨o,I.kIn a o hk,hc,n,by simpa using hs⟩,?_⟩;have e:=r.length;simp only [xo] at e;omega
theorem Inv.list_inj (I:Inv X pins σ H s) (h:SqL X.K H a xs) (h':SqL X.K H a ys):xs=ys:=by
 obtain ⟨b,r,⟨o,n,e,_,_,d⟩,_⟩:=I.list h;obtain ⟨its',r',⟨g,f,c,_,_,d'⟩,_⟩:=I.list h';rw [e] at c;cases c;rw [d] at d'
 injection d' with d1 _
 have:b=its':=by simpa using congrArg Array.toList d1
 subst this;exact r.inj r'
theorem Inv.tuple_inj (I:Inv X pins σ H s) (h:SqT X.K H a xs) (h':SqT X.K H a ys):xs=ys:=by
 obtain ⟨b,r,⟨o,e,_,n,d⟩,_⟩:=I.tuple h;obtain ⟨its',r',⟨g,c,_,f,d'⟩,_⟩:=I.tuple h';rw [e] at c;cases c;rw [d] at d'
 injection d' with d1 _
 have:b=its':=by simpa using congrArg Array.toList d1
 subst this;exact r.inj r'
end
noncomputable abbrev Cx.wish (X:Cx) (E:Value->Shared->Prop):Cx:={ X with xe:=E }
noncomputable abbrev Cx.nox (X:Cx):Cx:=X.wish fun _ _=>False
theorem Cx.Ok.wish (ok:X.Ok) (E:Value->Shared->Prop):(X.wish E).Ok:=
 ⟨ok.mod,ok.kind,ok.glob,ok.blt,ok.above,ok.inj,ok.has,ok.cab,ok.hd,ok.frames,ok.stk,ok.exf,ok.bs,ok.bsz,ok.noex,ok.exfs,ok.funs,ok.frf⟩
theorem Cx.Ok.unwish (ok:(X.wish E).Ok):X.Ok:=
 ⟨ok.mod,ok.kind,ok.glob,ok.blt,ok.above,ok.inj,ok.has,ok.cab,ok.hd,ok.frames,ok.stk,ok.exf,ok.bs,ok.bsz,ok.noex,ok.exfs,ok.funs,ok.frf⟩
section
variable {X:Cx} {pins:List (Addr×Obj)} {σ:St} {H:Hp} {s:Shared} {E:Value->Shared->Prop}
theorem Inv.wish (I:Inv X pins σ H s) (E:Value->Shared->Prop):Inv (X.wish E) pins σ H s:=⟨I.ok.wish E,I.os,I.bare,I.base,I.loc,I.cell,I.free,I.freeC,I.pin,I.hok,I.len⟩
theorem Inv.unwish (I:Inv (X.wish E) pins σ H s):Inv X pins σ H s:=⟨I.ok.unwish,I.os,I.bare,I.base,I.loc,I.cell,I.free,I.freeC,I.pin,I.hok,I.len⟩
theorem SP.unwish {f:Flow} (h:SP (X.wish E) pins D f s'):SP X pins D f s':=by
 cases f with
 | next=>obtain ⟨a,H',I,q⟩:=h;exact ⟨a,H',I.unwish,q⟩
 | brk=>obtain ⟨a,H',I,q⟩:=h;exact ⟨a,H',I.unwish,q⟩
 | cont=>obtain ⟨a,H',I,q⟩:=h;exact ⟨a,H',I.unwish,q⟩
 | ret u=>obtain ⟨v,a,H',I,r,q⟩:=h;exact ⟨v,a,H',I.unwish,r,q⟩
theorem PSs.nox {st:List Stmt} {t:TS} (h:PSs X.nox st t):PSs X st t:=fun pins s σ H D I hw =>
 YF (h pins s σ H D (I.wish _) hw) (fun _ _ q=>q.unwish) fun _ _ z=>False.elim z
end
section
variable {X:Cx} {st:Stmt} {rest:List Stmt} {t u:TS} {e:Expr} {te:TE} {pos:Pos}
def qfz:TS:=fun D σ H=>D.nx σ H
def qf5 (t u:TS):TS:=fun D σ H=>t { D with nx:=u D } σ H
theorem qv:PSs X [] qfz:=fun _ _ σ H _ I h=>kl ⟨σ,H,I,h⟩
theorem qc (h1:PS X st t) (c:PSs X rest u):PSs X (st::rest) (qf5 t u):=by
 intro pins s σ H D I h;refine wpAny_execs_cons (thn (h1 pins s σ H { D with nx:=u D } I h) fun f d q=>?_)
 cases f with
 | next =>
  obtain ⟨a,H',b,q⟩:=q;exact c pins d a H' D b q
 | ret v=>exact q
 | brk=>exact q
 | cont=>exact q
theorem qe (h1:PS X st t):PSs X [st] t:=by
 intro pins s σ H D I h;refine wpAny_execs_cons (thn (h1 pins s σ H D I h) fun f a q=>?_)
 cases f with
 | next=>exact kl q
 | ret v=>exact q
 | brk=>exact q
 | cont=>exact q
theorem Inv.quiet (I:Inv X pins σ H s):interactive X.env=false:=by simp [interactive,I.ok.kind]
def qfA (te:TE):TS:=fun D σ H=>te σ H fun _ a=>D.nx σ a
theorem qI (c:PE X e te) (d:swapsWith e none pos.line X.env=pure false:=by rfl):PS X (.Expr e pos) (qfA te):=by
 intro pins s σ H D I h;exact wpAny_Expr_any (thn (c pins s σ H _ I h) fun v i ⟨x,a,b,g,f⟩=>⟨σ,a,b,f⟩) I.quiet d
def qgh (te:TE):TS:=fun D σ H=>te σ H D.rt
theorem qj (c:PE X e te):PS X (.Return (some e) pos) (qgh te):=by
 intro pins s σ H D I h;exact wpAny_Return_some (thn (c pins s σ H _ I h) fun v g ⟨x,a,b,f,d⟩=>⟨x,σ,a,b,f,d⟩)
def qfB:TS:=fun D _ H=>D.rt .non H
theorem ps_retN:PS X (.Return none pos) qfB:=fun _ _ σ H _ I h=>wpAny_Return_none ⟨.non,σ,H,I,rfl,h⟩
def qgi (c:TT) (t u:TS):TS:=fun D σ H=>c σ H fun b a=>if b=true then t D σ a else u D σ a
theorem qN {a b:List Stmt} (hc:PT X c tc) (j:PSs X a t) (l:PSs X b u):PS X (.If c a b pos) (qgi tc t u):=by
 intro pins s σ H D I h;refine wpAny_If (thn (hc pins s σ H _ I h) fun d i ⟨e,f,g⟩=>?_)
 cases d with
 | true=>exact j pins i σ e D f g
 | false=>exact l pins i σ e D f g
def tNever:TS:=fun _ _ _=>False
theorem jw:PS X st tNever:=fun _ _ _ _ _ _ h=>h.elim
end
abbrev TG:=V->St->Hp->(St->Hp->Prop)->Prop
abbrev TGs:=List V->St->Hp->(St->Hp->Prop)->Prop
def PG (X:Cx) (a:Expr) (t:TG):Prop:=
 ∀ (pins:List (Addr×Obj)) (s:Shared) (σ:St) (H:Hp) (v:V) (u:Value) (Q:St->Hp->Prop),Inv X pins σ H s->RelV v u->t v σ H Q ->
  wpAny (model X.prog X.w) X.A (assign a X.env u) (fun _ s'=>∃ b H',Inv X pins b H' s'/\Q b H') X.xe s
def PGs (X:Cx) (b:List Expr) (t:TGs):Prop:=
 ∀ (pins:List (Addr×Obj)) (s:Shared) (σ:St) (H:Hp) (vs:List V) (us:List Value) (Q:St->Hp->Prop),Inv X pins σ H s->Vals vs us->t vs σ H Q ->
  wpAny (model X.prog X.w) X.A (assignInOrder ((assignEach b X.env).map (·.2)) us) (fun _ s'=>∃ a H',Inv X pins a H' s'/\Q a H') X.xe s
abbrev qfC:=V->V->V->Hp->(Hp->Prop)->Prop
def qf6 (X:Cx) (t:qfC):Prop:=
 ∀ (pins:List (Addr×Obj)) (s:Shared) (σ:St) (H:Hp) (o i v:V) (b a u:Value) (Q:Hp->Prop),Inv X pins σ H s->RelV o b->RelV i a->RelV v u->t o i v H Q ->
  wpAny (model X.prog X.w) X.A (setItem b a u) (fun _ s'=>∃ H',Inv X pins σ H' s'/\Q H') X.xe s
section
variable {X:Cx} {pos:Pos}
def qbR (i:Nat):TG:=fun v σ H Q=>Q (σ.set i (some v)) H
theorem qq (b:X.N.Nodup) (d:X.N[i]?=some x) (e:Loc X.env.scope x) (c:X.fn x=true\/X.env.scope.names.lookup x=some .local:=by first | exact .inl rfl | exact .inr rfl | assumption):PG X (.Name x pos) (qbR i):=by
 intro pins s σ H v u Q I r h;exact wpAny_assign_Name (qaQ I b d e r (fun s' a=>⟨_,H,a,h⟩) c)
def qgj:TGs:=fun vs σ H Q=>vs=[]/\Q σ H
def qfa (t:TG) (u:TGs):TGs:=fun vs σ H Q=>∃ v r,vs=v::r/\t v σ H fun a H'=>u r a H' Q
theorem qa9:PGs X [] qgj:=by
 intro pins s σ H vs us Q I r h;obtain ⟨e,h⟩:=h;subst e;cases r;exact assignInOrder_nil ⟨σ,H,I,h⟩
theorem jx {t:TG} {u:TGs} (h1:PG X e t) (f:PGs X es u)
  (g:(assignEach (e::es) X.env).map (·.2)=assign e X.env::(assignEach es X.env).map (·.2):=by rfl):PGs X (e::es) (qfa t u):=by
 intro pins s σ H vs us Q I r h;obtain ⟨v,l,d,h⟩:=h;subst d
 cases r with
 | cons r rr =>
  rw [g];refine assignInOrder_cons (thn (h1 pins s σ H _ _ _ I r h) fun _ j ⟨a,b,c,i⟩=>?_);exact f pins j a b _ _ Q c rr i
def qgk (K:yg) (n:Nat) (t:TGs):TG:=fun v σ H Q=>∃ a xs,v=.ref a/\SqT K H a xs/\xs.length=n/\t xs σ H Q
theorem qcb {k:Nat} {t:TGs} (hc:X.calm=true) (h:PGs X es t)
  (i:(assignEach es X.env).length=n:=by rfl) (c:(assignEach es X.env).findIdx? (·.1)=none:=by rfl):PG X (.Tuple es k pos) (qgk X.K n t):=by
 intro pins s σ H v u Q I r hw;obtain ⟨a,xs,g,j,hl,hw⟩:=hw;subst g;cases r;obtain ⟨p,d,l,hz⟩:=I.tuple j;refine assign_Tuple_tuple (I.ok.hd hc) l (by simp [i,<- hl,d.length]) c fun h' m=>?_;have f:Inv X pins σ H { s with heap:=h' }:=I.kept (t':=s.toks) fun b o e=>m b o (yI (yH e)) e;exact h pins _ σ H xs _ Q f (by simpa using d) hw
def qgl (to d:TE) (t:qfC):TG:=fun v σ H Q=>to σ H fun o a=>d σ a fun i b=>t o i v b fun c=>Q σ c
theorem jy {o i:Expr} {to c:TE} {t:qfC} (p:PE X o to) (n:PE X i c) (q:qf6 X t)
  (m:∀ v,assign (.Subscript o i pos) X.env v=(do
   let a <- holding [v] (eval o X.env);let b <- holding [v,a] (eval i X.env)
   standAt pos
   holding [v,a,b] (setItem a b v)
   release [v,a,b] []):=by intro _;rfl):PG X (.Subscript o i pos) (qgl to c t):=by
 intro pins s σ H v u Q I r h;rw [m];refine yr (Ys (thn (p pins s σ H _ I h) fun a D ⟨x,d,g,B,w⟩=>?_));refine yr (Ys (thn (n pins D σ d _ g w) fun b E ⟨y,e,j,C,z⟩=>?_));refine yr (Xh (yr (Ys (thn (q pins E σ e x y v a b u _ j B C r z) fun _ F ⟨f,l,A⟩=>?_))));exact wpAny_release ⟨σ,f,l,A⟩
def qft (te:TE) (g:TG):TS:=fun D σ H=>te σ H fun x a=>g x σ a D.nx
theorem jv (c:PE X e te) (d:PG X tg g) (f:swapsWithSole [tg] e pos.line X.env=pure false:=by rfl) (hw:swappedStores [tg] e X.env=pure none:=by rfl)
  (h1:(assignEach [tg] X.env).map (·.2)=[assign tg X.env]:=by rfl):PS X (.Assign [tg] e pos) (qft te g):=by
 intro pins s σ H D I h;refine wpAny_Assign_stores (thn (c pins s σ H _ I h) fun v l ⟨x,a,b,j,i⟩=>?_) f hw;rw [h1];exact thn (d pins l σ a x v _ b j i) fun _ m q=>q
theorem qk {a:Pos} (f:X.N.Nodup) (l:X.N[i]?=some x) (n:Loc X.env.scope x) (g:PE X e te) (m:swapsWith e (some (.Name x a)) pos.line X.env=pure false:=by rfl) (j:X.fn x=true\/X.env.scope.names.lookup x=some .local:=by first | exact .inl rfl | exact .inr rfl | assumption) :
  PS X (.Assign [.Name x a] e pos) (qft te (qbR i)):=by
 intro pins s σ H D I h;refine wpAny_Assign_Name (thn (g pins s σ H _ I h) fun v q ⟨y,b,c,p,o⟩=>?_) m;exact qaQ c f l n p (fun r d=>⟨_,b,d,o⟩) j
end
section
variable {X:Cx} {pos:Pos}
def tWhile (c:TT) (tb:TS):TS:=fun D σ H=>∃ W:Nat->St->Hp->Prop,(∃ m,W m σ H)/\∀ m σ H,W m σ H ->
 c σ H fun b d=>if b=true then ∃ N:St->Hp->Prop,(∀ a H',N a H'->∃ e,e<m/\W e a H')/\tb { D with nx:=N,ct:=N,bk:=D.nx } σ d else D.nx σ d
theorem qaR (y:PassesOwn (model X.prog X.w) X.A X.env X.xe) (hc:PT X c tc) (B:PSs X body tb):PS X (.While c body [] pos) (tWhile tc tb):=by
 intro pins s σ H D I h;obtain ⟨W,⟨C,G⟩,turn⟩:=h;refine wpAny_While (codeAny_whileLoop (fun n s'=>∃ g H',Inv X pins g H' s'/\W n g H') ?_ C ⟨σ,H,I,G⟩);rintro n E ⟨d,r,z,J⟩;refine xC y (thn (hc pins E d r _ z (turn n d r J)) fun b F ⟨t,u,i⟩=>?_)
 cases b with
 | true =>
  obtain ⟨N,x,i⟩:=i;rw [yF rfl];refine xC y (thn (B pins F d t _ u i) fun f K j=>?_)
  cases f with
  | next =>
   obtain ⟨a,e,l,p⟩:=j;obtain ⟨o,m,q⟩:=x a e p;exact ⟨o,m,a,e,l,q⟩
  | cont =>
   obtain ⟨a,e,l,p⟩:=j;obtain ⟨o,m,q⟩:=x a e p;exact ⟨o,m,a,e,l,q⟩
  | brk=>exact j
  | ret v=>exact j
 | false =>
  rw [yy Yn];exact kl ⟨d,t,u,i⟩
end
structure It where
 go:Nat->Hp->Prop
 yld:Nat->Hp->V->Hp->Prop
 stop:Nat->Hp->Prop
def qcJ (X:Cx) (pins:List (Addr×Obj)) (H:Hp) (b:Addr):Prop:=
 H b=none/\b≠X.env.locals/\b∉X.fs/\(b∈X.ex\/X.s₀.heap.objs.size<=b)/\(∀ x c,X.env.cells.lookup x=some c->c≠b)/\∀ p∈X.pn++pins,p.1≠b
theorem Inv.fpOk {H':Hp} (I:Inv X pins σ H s) (a:s.heap.objs.size<=b) (d:H' b=none):qcJ X pins H' b:=by
 refine ⟨d,Yj (yj I.lt a),I.nofs a,.inr (yi I.sz a),fun x c e z=>?_,fun p f z=>?_⟩
 ·obtain ⟨v,q⟩:=I.cell x c e;exact absurd (yj q.lt (by rw [z];exact a)) (Yy _)
 ·exact absurd (yj (yH (I.pin p f).1) (by rw [z];exact a)) (Yy _)
structure Turn (P:Program) (w:World) (K:yg) (tg:Expr) (J:It) (fp:List Addr) (it:Addr) (tn:Nat->Heap->Prop):Prop where
 mem:it∈fp
 obj:∀ i h,tn i h->∀ b∈fp,∃ o,h.get? b=some o/\∀ v,o.data≠.cell v
 keep:∀ i h h',tn i h->(∀ b∈fp,∀ o,h.get? b=some o->h'.get? b=some o)->tn i h'
 item:∀ (X:Cx),X.prog=P->X.w=w->X.K=K->X.calm=true->∀ (i:Nat) (pins:List (Addr×Obj)) (s:Shared) (σ:St) (H:Hp) (E:Value->Shared->Prop),Inv X pins σ H s->(∀ b∈fp,qcJ X pins H b)->tn i s.heap->J.go i H ->
  wpAny (model P w) X.A (pyNext (.ref it)) (fun r s1=>∃ u,r=some u /\
   wpAny (model P w) X.A (letOwnedTupleGo tg (.ref it) u) (fun _ s2=>∃ x H',Inv X pins σ H' s2/\RelV x u/\J.yld i H x H'/\tn (i+1) s2.heap/\∀ b∈fp,H' b=none) E s1) E s
 done:∀ (X:Cx),X.prog=P->X.w=w->X.K=K->X.calm=true->∀ (i:Nat) (pins:List (Addr×Obj)) (s:Shared) (σ:St) (H:Hp) (E:Value->Shared->Prop),Inv X pins σ H s->(∀ b∈fp,qcJ X pins H b)->tn i s.heap->J.stop i H ->
  wpAny (model P w) X.A (pyNext (.ref it)) (fun r s1=>r=none/\Inv X pins σ H s1) E s
 self:∀ (A:Around) (i:Nat) (s:Shared) (Q:Value->Shared->Prop) (E:Value->Shared->Prop),tn i s.heap->Q (.ref it) s->wpAny (model P w) A (pyIter (.ref it)) Q E s
abbrev TI:=St->Hp->(It->Hp->Prop)->Prop
def PIE (X:Cx) (pins:List (Addr×Obj)) (σ:St) (tg:Expr) (R:It->Hp->Prop) (a:Value) (c:Shared):Prop:=
 ∃ (it:Addr) (fp:List Addr) (tn:Nat->Heap->Prop) (J:It) (H':Hp),a=.ref it/\Inv X pins σ H' c/\Turn X.prog X.w X.K tg J fp it tn/\tn 0 c.heap/\(∀ b∈fp,qcJ X pins H' b)/\R J H'
def PI (X:Cx) (tg a:Expr) (c:TI):Prop:=
 ∀ (pins:List (Addr×Obj)) (s:Shared) (σ:St) (H:Hp) (R:It->Hp->Prop),Inv X pins σ H s->c σ H R ->
  wpAny (model X.prog X.w) X.A (eval a X.env) (fun v b=>wpAny (model X.prog X.w) X.A (pyIter v) (PIE X pins σ tg R) X.xe b) X.xe s
theorem qfb {o:Obj} {n:String} {vs:Array Value} {Q:Unit->Shared->Prop} (d:s.heap.get? it=some o) (hc:o.cls=.type n) (b:o.data=.fields vs)
    (c:["enumerate","zip","dict_itemiterator","dict_reverseitemiterator","odict_iterator","itertools.zip_longest","itertools.pairwise"].contains n=false) (a:Q () s):wpAny M A (letOwnedTupleGo tg (.ref it) u) Q E s:=by
  unfold letOwnedTupleGo;cases tg<;>first
    | exact yw a
    | (cases u<;>first
        | exact yw a
        | (refine yr (wpAny_load d ?_)
           rw [hc,b];show wpAny M A (if (["enumerate","zip","dict_itemiterator","dict_reverseitemiterator","odict_iterator","itertools.zip_longest","itertools.pairwise"].contains n&&vs[0]?==some (rawInt _))=true then _ else _) Q E s;rw [yy (by intro h;rw [c,Bool.false_and] at h;cases h)];exact yw a))
noncomputable def Itl (K:yg) (a:Addr):It:=
 ⟨fun i H=>∃ xs x,SqL K H a xs/\xs[i]?=some x,fun i H x H'=>H'=H/\∀ xs,SqL K H a xs->xs[i]?=some x,fun i H=>∃ xs,SqL K H a xs/\xs.length<=i⟩
noncomputable def Itt (K:yg) (a:Addr):It:=
 ⟨fun i H=>∃ xs x,SqT K H a xs/\xs[i]?=some x,fun i H x H'=>H'=H/\∀ xs,SqT K H a xs->xs[i]?=some x,fun i H=>∃ xs,SqT K H a xs/\xs.length<=i⟩
noncomputable def Itr (lo:Int) (n:Nat):It:=⟨fun i _=>i<n,fun i H x H'=>H'=H/\x=.int (lo+i),fun i _=>n<=i⟩
theorem qcc {K:yg} (a it:Addr):Turn P w K tg (Itl K a) [it] it (fun i h=>h.IsListIter it a i) where
 mem:=by simp
 obj:=fun i h st b f=>by
  have e:b=it:=by simpa using f
  subst e;obtain ⟨o,e,c,d⟩:=st;exact ⟨o,e,fun v z=>by rw [d] at z;cases z⟩
 keep:=fun i h h' st k=>st.at fun o e=>k it (by simp) o e
 item:=by
  intro X A hw y hc i pins s σ H E I j st B;subst A hw y;obtain ⟨xs,x,l,C⟩:=B;obtain ⟨D,F,p,hz⟩:=I.list l;obtain ⟨u,M,O⟩:=F.get C;obtain ⟨m,n,L,q,r,t⟩:=j it (by simp);refine wpAny_pyNext_list_item st p.isList (x:=u) (by simpa using M) fun h' g R=>?_;have G:Inv X pins σ H { s with heap:=h' }:=I.turned (t':=s.toks) (fun b o f e=>(R.2 b f).trans e) m n q r t;obtain ⟨o,e,c,d⟩:=id g;exact ⟨u,rfl,qfb (s:={ s with heap:=h' }) e c d (by decide) ⟨x,H,G,O,⟨rfl,fun ys N=>by rw [I.list_inj N l];exact C⟩,g,fun b f=>(j b f).1⟩⟩
 done:=by
  intro X A hw y hc i pins s σ H E I j st B;subst A hw y;obtain ⟨xs,l,C⟩:=B;obtain ⟨D,F,p,hz⟩:=I.list l;obtain ⟨m,n,L,q,r,t⟩:=j it (by simp);have hl:=F.length;exact wpAny_pyNext_list_end (I.ok.hd hc) st p.isList (by simp;omega) fun h' J=>⟨rfl,I.turned (t':=s.toks) (fun b o f e=>J b o f e) m n q r t⟩
 self:=fun _ _ _ _ _ st h=>wpAny_pyIter_listiter st h
theorem turn_tuple {K:yg} (a it:Addr):Turn P w K tg (Itt K a) [it] it (fun i h=>h.IsTupleIter it a i) where
 mem:=by simp
 obj:=fun i h st b f=>by
  have e:b=it:=by simpa using f
  subst e;obtain ⟨o,e,c,d⟩:=st;exact ⟨o,e,fun v z=>by rw [d] at z;cases z⟩
 keep:=fun i h h' st k=>st.at fun o e=>k it (by simp) o e
 item:=by
  intro X B hw A hc i pins s σ H E I l st C;subst B hw A;obtain ⟨xs,x,m,D⟩:=C;obtain ⟨g,F,p,hz⟩:=I.tuple m;obtain ⟨u,M,O⟩:=F.get D;obtain ⟨n,q,L,r,t,y⟩:=l it (by simp);refine wpAny_pyNext_tuple_item st (show s.heap.IsTuple a g.toArray from p) (x:=u) (by simpa using M) fun h' j R=>?_;have G:Inv X pins σ H { s with heap:=h' }:=I.turned (t':=s.toks) (fun b o f e=>(R.2 b f).trans e) n q r t y;obtain ⟨o,e,c,d⟩:=id j;exact ⟨u,rfl,qfb (s:={ s with heap:=h' }) e c d (by decide) ⟨x,H,G,O,⟨rfl,fun ys N=>by rw [I.tuple_inj N m];exact D⟩,j,fun b f=>(l b f).1⟩⟩
 done:=by
  intro X B hw A hc i pins s σ H E I l st C;subst B hw A;obtain ⟨xs,m,D⟩:=C;obtain ⟨g,F,p,hz⟩:=I.tuple m;obtain ⟨n,q,L,r,t,y⟩:=l it (by simp);have hl:=F.length;exact wpAny_pyNext_tuple_end (I.ok.hd hc) st (show s.heap.IsTuple a g.toArray from p) (by simp;omega) fun h' J=>⟨rfl,I.turned (t':=s.toks) (fun b o f e=>J b o f e) n q r t y⟩
 self:=fun _ _ _ _ _ st h=>wpAny_pyIter_tupleiter st h
theorem turn_range {K:yg} (it:Addr) (lo:Int) (n:Nat):Turn P w K tg (Itr lo n) [it] it (fun i h=>IsRangeIter h it (lo+(i:Nat)*1) ((n:Int)-(i:Nat)) 1) where
 mem:=by simp
 obj:=fun i h st b a=>by
  have e:b=it:=by simpa using a
  subst e
  exact ⟨_,st,fun v z=>by
   have B:Data.fields _=Data.cell v:=z;cases B⟩
 keep:=fun i h h' st k=>k it (by simp) _ st
 item:=by
  intro X q hw p hc i pins s σ H E I d st r;subst q hw p;obtain ⟨f,g,y,j,l,m⟩:=d it (by simp);have W:=Walks.range (prog:=X.prog) (w:=X.w) (I.ok.hd hc) it lo 1 n;refine W.item i s _ _ r st fun v h' tk hv c A=>?_;obtain ⟨t,rfl⟩:=hv;have u:Inv X pins σ H { s with heap:=h',toks:=tk }:=I.turned (fun b o a e=>A b o (by simpa using a) e) f g j l m;refine ⟨_,rfl,qfb (s:={ s with heap:=h',toks:=tk }) (n:="range_iterator") c rfl rfl (by decide) ⟨.int (lo+i),H,u,⟨t,?_⟩,⟨rfl,rfl⟩,c,fun b a=>(d b a).1⟩⟩;rw [Int.mul_one]
 done:=by
  intro X q hw p hc i pins s σ H E I d st r;subst q hw p;obtain ⟨f,g,y,j,l,m⟩:=d it (by simp);exact wpAny_pyNext_range_end (I.ok.hd hc) st (by have:n<=i:=r;omega) fun h' x=>⟨rfl,I.turned (t':=s.toks) (fun b o a e=>x b o a e) f g j l m⟩
 self:=fun _ _ _ _ _ st h=>wpAny_pyIter_rangeiter st h
section
variable {X:Cx} {tg:Expr}
theorem qc3 {R:It->Hp->Prop} {a:Int} {t u v:Tok} {tk:Nat} (I:Inv X pins σ H s) (h1:-(2 ^ 62)<=lo) (g:lo<2 ^ 62) (h:-(2 ^ 62)<=a) (i:a<2 ^ 62)
  (q:R (Itr lo (a-lo).toNat) H):wpAny (model X.prog X.w) X.A (pyIter (.ref s.heap.objs.size)) (PIE X pins σ tg R) E { s with heap:=s.heap.push { cls:=.type "range",data:=.fields #[.int lo t,.int a u,.int 1 v] },toks:=tk }:=by
 refine wpAny_pyIter_range (IsRange.new ..) (small_one h1 g h i) ?_;have c:Inv X pins σ H { s with heap:=s.heap.push { cls:=.type "range",data:=.fields #[.int lo t,.int a u,.int 1 v] },toks:=tk }:=I.kept fun b o e=>yu _ e;refine ⟨(s.heap.push { cls:=.type "range",data:=.fields #[.int lo t,.int a u,.int 1 v] }).objs.size,[(s.heap.push { cls:=.type "range",data:=.fields #[.int lo t,.int a u,.int 1 v] }).objs.size],_,_,H,rfl,
  c.kept (t':=tk) fun b o e=>yu _ e,turn_range _ lo (a-lo).toNat,?_,fun b j=>?_,q⟩
 ·have d:lo+((0:Nat):Int)*1=lo:=by simp
  have f:(((a-lo).toNat:Nat):Int)-((0:Nat):Int)=Builtin.Range.rangeSize lo a 1:=by rw [rangeSize_one];split<;>omega
  show IsRangeIter _ _ (lo+((0:Nat):Int)*1) ((((a-lo).toNat:Nat):Int)-((0:Nat):Int)) 1;rw [d,f];exact yV _ rfl
 ·have e:b=(s.heap.push { cls:=.type "range",data:=.fields #[.int lo t,.int a u,.int 1 v] }).objs.size:=by simpa using j
  subst e;exact c.fpOk (yh _) (c.hok.fresh (yh _))
def qfD (ta:TA):TI:=fun σ H R=>ta σ H fun vs a=>∃ j:Int,vs=[.int j]/\-(2 ^ 62)<=j/\j<2 ^ 62/\R (Itr 0 j.toNat) a
def qfE (ta:TA):TI:=fun σ H R=>ta σ H fun vs a=>∃ i j:Int,vs=[.int i,.int j]/\(-(2 ^ 62)<=i/\i<2 ^ 62/\-(2 ^ 62)<=j/\j<2 ^ 62)/\R (Itr i (j-i).toNat) a
theorem jQ {a:Expr} (f:Gl X "range") (g:X.mg "range"=none) (d:PA X [a] ta) (i:starEach [a] X.env=[(false,eval a X.env)]:=by rfl):PI X tg (.Call (.Name "range" p) [a] [] pos) (qfD ta):=by
 intro pins s σ H R I h;refine Call_ (zI I f g boot_range (Yu (thn (d pos pins s σ H _ I h) fun us o ⟨vs,n,c,m,b⟩=>?_) i rfl));obtain ⟨j,e,b,l,q⟩:=b;subst e
 cases m with
 | cons r rr =>
  cases rr;obtain ⟨t,rfl⟩:=r;exact call_range_1 (qc3 c (by omega) (by omega) b l (by simpa using q))
theorem qba {a b:Expr} (l:Gl X "range") (m:X.mg "range"=none) (g:PA X [a,b] ta) (n:starEach [a,b] X.env=[(false,eval a X.env),(false,eval b X.env)]:=by rfl) (c:starEach [b] X.env=[(false,eval b X.env)]:=by rfl) :
  PI X tg (.Call (.Name "range" p) [a,b] [] pos) (qfE ta):=by
 intro pins s σ H R I h;refine Call_ (zI I l m boot_range (Yu (thn (g pos pins s σ H _ I h) fun us y ⟨vs,x,f,w,d⟩=>?_) (by rw [n,c]) (by rw [c];rfl)));obtain ⟨i,j,e,⟨d,o,u,v⟩,q⟩:=d;subst e
 cases w with
 | cons r rr =>
  cases rr with
  | cons r' rr =>
   cases rr;obtain ⟨t,rfl⟩:=r;obtain ⟨t',rfl⟩:=r';exact call_range_2 (qc3 f d o u v q)
def qgm (f:TI) (g:TG) (tb:TS):TS:=fun D σ H=>f σ H fun J d=>∃ W:Nat->Nat->St->Hp->Prop,(∃ m,W 0 m σ d)/\∀ i m σ H,W i m σ H ->
 (J.stop i H/\D.nx σ H)\/(J.go i H/\∃ N:St->Hp->Prop,(∀ a H',N a H'->∃ c,c<m/\W (i+1) c a H')/\∀ x H',J.yld i H x H'->g x σ H' fun b e=>tb { D with nx:=N,ct:=N,bk:=D.nx } b e)
noncomputable def qcd (fp:List Addr) (h:Heap):List (Addr×Obj):=fp.filterMap fun b=>(h.get? b).map fun o=>(b,o)
theorem zU {o:Obj} (a:b∈fp) (e:h.get? b=some o):(b,o)∈qcd fp h:=List.mem_filterMap.mpr ⟨b,a,by rw [e];rfl⟩
theorem of_pinsAt {p:Addr×Obj} (d:p∈qcd fp h):p.1∈fp/\h.get? p.1=some p.2:=by
 obtain ⟨b,c,e⟩:=List.mem_filterMap.mp d
 cases q:h.get? b with
 | none=>rw [q] at e;cases e
 | some o =>
  rw [q] at e;have a:(b,o)=p:=ym e;subst a;exact ⟨c,q⟩
theorem Inv.pinned (I:Inv X pins σ H s) (i:∀ b∈fp,qcJ X pins H b) (j:∀ b∈fp,∃ o,s.heap.get? b=some o/\∀ v,o.data≠.cell v):Inv X (pins++qcd fp s.heap) σ H s:=
 I.pins_of fun p l=>(yD.mp l).elim (fun z=>I.pin p (yL _ z)) fun z=>by
  obtain ⟨c,e⟩:=of_pinsAt z;obtain ⟨f,g,h,_⟩:=i p.1 c;obtain ⟨o,a,d⟩:=j p.1 c;rw [e] at a;cases a;exact ⟨e,f,g,h,d⟩
theorem Inv.unpinned {pl:List (Addr×Obj)} (I:Inv X (pins++pl) σ H s):Inv X pins σ H s:=I.pins_of fun p a=>I.pin p (yL _ (yO _ a))
theorem jf {p:Expr} {wi:TI} (E:PassesOwn (model X.prog X.w) X.A X.env X.xe) (hc:X.calm=true) (hi:PI X tg p wi) (hg:PG X tg g) (l:PSs X body tb)
  (hs:∀ x,foldedSetIterable p X.env x=pure x:=by intro _;rfl):PS X (.For tg p body [] pos) (qgm wi g tb):=by
 intro pins s σ H D I h;refine wpAny_For (thn (hi pins s σ H _ I h) fun v s1 h1=>thn h1 fun aa s2 h2=>?_) hs;obtain ⟨it,fp,tn,J,H2,e,I2,T,S,f2,W,⟨m0,w0⟩,turn⟩:=h2;subst e;have q:∀ {H':Hp},(∀ b∈fp,H' b=none)->∀ b∈fp,qcJ X pins H' b:=fun hn b l=>⟨hn b l,(f2 b l).2⟩;refine codeAny_forLoop_any (fun n s'=>∃ i t H',Inv X pins t H' s'/\tn i s'.heap/\(∀ b∈fp,H' b=none)/\W i n t H') ?_ m0 ⟨0,σ,H2,I2,S,fun b l=>(f2 b l).1,w0⟩;rintro n s3 ⟨i,y,L,Z,G,C,w3⟩;rcases turn i n y L w3 with ⟨K,qn⟩ | ⟨go,N,hN,step⟩
 ·refine xC E (thn (T.done X rfl rfl rfl hc i pins s3 y L X.xe Z (q C) G K) fun r s4 ⟨P,I4⟩=>?_);subst P;exact kl ⟨y,L,I4,qn⟩
 ·refine xC E (thn (T.item X rfl rfl rfl hc i pins s3 y L X.xe Z (q C) G go) fun r s4 ⟨u,P,h4⟩=>?_);subst P;refine xC E (thn h4 fun _ s5 ⟨x,Y,I5,r5,y5,B,O⟩=>?_);have M:=I5.pinned (q O) (T.obj _ _ B);refine xC E (thn (hg _ s5 y Y x u _ M r5 (step x Y y5)) fun _ s6 ⟨U,H6,I6,q6⟩=>?_);refine xC E (thn (l _ s6 U H6 _ I6 q6) fun f R z=>?_)
  have again:∀ {a:St} {c:Hp},Inv X (pins++qcd fp s5.heap) a c R->N a c->∃ m,m<n/\∃ i t H',Inv X pins t H' R/\tn i R.heap/\(∀ b∈fp,H' b=none)/\W i m t H':=fun {a c} j F=>by
   obtain ⟨m',hm,w7⟩:=hN a c F;refine ⟨m',hm,i+1,a,c,j.unpinned,T.keep _ _ _ B fun b l o e=>(j.pin (b,o) (yL _ (yL _ (zU l e)))).1,fun b l=>?_,w7⟩;obtain ⟨o,e,d⟩:=T.obj _ _ B b l;exact (j.pin (b,o) (yL _ (yL _ (zU l e)))).2.1
  cases f with
  | next=>obtain ⟨a,c,j,F⟩:=z;exact again j F
  | cont=>obtain ⟨a,c,j,F⟩:=z;exact again j F
  | brk=>obtain ⟨a,c,j,z⟩:=z;exact ⟨a,c,j.unpinned,z⟩
  | ret v=>obtain ⟨x7,a,c,j,r7,z⟩:=z;exact ⟨x7,a,c,j.unpinned,r7,z⟩
end
theorem qT {K:yg} (b:Nat->St->Hp->Prop) (l:b 0 σ H) (hl:∀ i σ H,i<=xs.length->b i σ H->SqL K H a xs)
  (r:∀ i x σ H,xs[i]?=some x->b i σ H->g x σ H fun d h=>tb { D with nx:=b (i+1),ct:=b (i+1),bk:=D.nx } d h) (n:∀ σ H,b xs.length σ H->D.nx σ H) :
  ∃ W:Nat->Nat->St->Hp->Prop,(∃ m,W 0 m σ H)/\∀ i m σ H,W i m σ H ->
   ((Itl K a).stop i H/\D.nx σ H)\/((Itl K a).go i H/\∃ N:St->Hp->Prop,(∀ c H',N c H'->∃ j,j<m/\W (i+1) j c H')/\∀ x H',(Itl K a).yld i H x H'->g x σ H' fun d h=>tb { D with nx:=N,ct:=N,bk:=D.nx } d h):=by
 refine ⟨fun i m σ H=>m=xs.length-i/\i<=xs.length/\b i σ H,⟨xs.length,by simp,YI _,l⟩,?_⟩;rintro i m σ H ⟨rfl,o,p⟩;have q:=hl i σ H o p;by_cases f:i<xs.length
 ·refine .inr ⟨⟨xs,xs[i],q,by simp [f]⟩,b (i+1),fun c H' s=>⟨xs.length-(i+1),by omega,rfl,f,s⟩,fun x H' y=>?_⟩;obtain ⟨e,y⟩:=y;subst e;exact r i x σ _ (y xs q) p
 ·have e:i=xs.length:=by omega
  subst e;exact .inl ⟨⟨xs,q,yh _⟩,n σ H p⟩
theorem j0 (a:Nat->St->Hp->Prop) (j:a 0 σ H)
  (o:∀ i σ H,i<n->a i σ H->g (.int (lo+i)) σ H fun d f=>tb { D with nx:=a (i+1),ct:=a (i+1),bk:=D.nx } d f) (l:∀ σ H,a n σ H->D.nx σ H) :
  ∃ W:Nat->Nat->St->Hp->Prop,(∃ m,W 0 m σ H)/\∀ i m σ H,W i m σ H ->
   ((Itr lo n).stop i H/\D.nx σ H)\/((Itr lo n).go i H/\∃ N:St->Hp->Prop,(∀ c H',N c H'->∃ h,h<m/\W (i+1) h c H')/\∀ x H',(Itr lo n).yld i H x H'->g x σ H' fun d f=>tb { D with nx:=N,ct:=N,bk:=D.nx } d f):=by
 refine ⟨fun i m σ H=>m=n-i/\i<=n/\a i σ H,⟨n,by simp,YI _,j⟩,?_⟩;rintro i m σ H ⟨rfl,r,p⟩;by_cases b:i<n
 ·refine .inr ⟨b,a (i+1),fun c H' q=>⟨n-(i+1),by omega,rfl,b,q⟩,fun x H' y=>?_⟩;obtain ⟨e,y⟩:=y;subst e y;exact o i σ _ b p
 ·have e:i=n:=by omega
  subst e;exact .inl ⟨yh _,l σ H p⟩
abbrev R2:=V->V->Hp->VK->Prop
def OpR (X:Cx) (f:Value->Value->Sem Value) (r:R2):Prop:=
 ∀ (pins:List (Addr×Obj)) (s:Shared) (σ:St) (H:Hp) (x y:V) (v u:Value) (Q:VK),Inv X pins σ H s->RelV x v->RelV y u->r x y H Q ->
  wpAny (model X.prog X.w) X.A (f v u) (EP X pins σ Q) X.xe s
def UnR (X:Cx) (f:Value->Sem Value) (r:V->Hp->VK->Prop):Prop:=
 ∀ (pins:List (Addr×Obj)) (s:Shared) (σ:St) (H:Hp) (x:V) (v:Value) (Q:VK),Inv X pins σ H s->RelV x v->r x H Q ->
  wpAny (model X.prog X.w) X.A (f v) (EP X pins σ Q) X.xe s
def zm (X:Cx) (f:Value) (r:List V->Hp->VK->Prop):Prop:=
 ∀ (pins:List (Addr×Obj)) (s:Shared) (σ:St) (H:Hp) (xs:List V) (us:List Value) (Q:VK),Inv X pins σ H s->Vals xs us->r xs H Q ->
  wpAny (model X.prog X.w) X.A (call f us) (EP X pins σ Q) X.xe s
def tOp (r:R2) (ta tb:TE):TE:=fun σ H Q=>ta σ H fun x a=>tb σ a fun y b=>r x y b Q
def tUn (r:V->Hp->VK->Prop) (ta:TE):TE:=fun σ H Q=>ta σ H fun x a=>r x a Q
def rI (C:Int->Int->Prop) (g:Int->Int->V):R2:=fun x y H Q=>∃ i j,x=.int i/\y=.int j/\C i j/\Q (g i j) H
def rI0 (g:Int->Int->V):R2:=fun x y H Q=>∃ i j,x=.int i/\y=.int j/\Q (g i j) H
def rU (g:Int->V):V->Hp->VK->Prop:=fun x H Q=>∃ i,x=.int i/\Q (g i) H
section
variable {X:Cx} {a b c:Expr} {ta tb tc:TE} {pos:Pos}
theorem qf7 (m:PE X a ta) (n:PE X b tb) {R:V->V->Hp->Prop} (I:Inv X pins σ H s)
  (h:ta σ H fun x i=>tb σ i fun y c=>R x y c) {Q:Value->Shared->Prop}
  (o:∀ v u g x y c,Inv X pins σ c g->RelV x v->RelV y u->R x y c->wpAny (model X.prog X.w) X.A (f v u) Q X.xe g) :
  wpAny (model X.prog X.w) X.A (eval a X.env) (fun v d=>wpAny (model X.prog X.w) X.A (eval b X.env) (fun u e=>wpAny (model X.prog X.w) X.A (f v u) Q X.xe e) X.xe d) X.xe s:=by
 refine thn (m pins s σ H _ I h) fun v z ⟨x,i,j,r,p⟩=>?_;refine thn (n pins z σ i _ j p) fun u g ⟨y,c,l,t,q⟩=>?_;exact o v u g x y c l r t q
theorem qx {op:Operator} (g:OpR X (binaryOp op) r) (e:PE X a ta) (f:PE X b tb):PE X (.BinOp a op b pos) (tOp r ta tb):=by
 intro pins s σ H Q I h;exact wpAny_BinOp (qf7 e f I h fun v u l x y c d i j q=>g pins l σ c x y v u Q d i j q)
theorem qbb {op:UnaryOp} {r:V->Hp->VK->Prop} (e:UnR X (unaryOp op) r) (d:PE X a ta):PE X (.UnaryOp op a pos) (tUn r ta):=by
 intro pins s σ H Q I h;exact UnaryOp_ (thn (d pins s σ H _ I h) fun v i ⟨x,b,c,g,f⟩=>e pins i σ b x v Q c g f)
theorem opI {C:Int->Int->Prop} {g:Int->Int->Int}
  (a:∀ (i j:Int) (t u:Tok) (s:Shared) (Q:Value->Shared->Prop) (E:Value->Shared->Prop),C i j->Q (.int (g i j) s.toks) { s with toks:=s.toks+1 }->wpAny (model X.prog X.w) X.A (f (.int i t) (.int j u)) Q E s) :
  OpR X f (rI C fun i j=>.int (g i j)):=by
 intro pins s σ H x y v u Q I b c h;obtain ⟨i,j,rfl,rfl,hc,q⟩:=h;obtain ⟨t,rfl⟩:=b;obtain ⟨t',rfl⟩:=c;exact a i j t t' s _ _ hc ⟨.int (g i j),H,I.tok _,⟨_,rfl⟩,q⟩
theorem qfY {g:Int->Int->Int}
  (a:∀ (i j:Int) (t u:Tok) (s:Shared) (Q:Value->Shared->Prop) (E:Value->Shared->Prop),Q (.int (g i j) s.toks) { s with toks:=s.toks+1 }->wpAny (model X.prog X.w) X.A (f (.int i t) (.int j u)) Q E s) :
  OpR X f (rI0 fun i j=>.int (g i j)):=by
 intro pins s σ H x y v u Q I b c h;obtain ⟨i,j,rfl,rfl,q⟩:=h;obtain ⟨t,rfl⟩:=b;obtain ⟨t',rfl⟩:=c;exact a i j t t' s _ _ ⟨.int (g i j),H,I.tok _,⟨_,rfl⟩,q⟩
theorem qf8 {g:Int->Int->Bool}
  (a:∀ (i j:Int) (t u:Tok) (s:Shared) (Q:Value->Shared->Prop) (E:Value->Shared->Prop),Q (.bool (g i j)) s->wpAny (model X.prog X.w) X.A (f (.int i t) (.int j u)) Q E s) :
  OpR X f (rI0 fun i j=>.bl (g i j)):=by
 intro pins s σ H x y v u Q I b c h;obtain ⟨i,j,rfl,rfl,q⟩:=h;obtain ⟨t,rfl⟩:=b;obtain ⟨t',rfl⟩:=c;exact a i j t t' s _ _ ⟨.bl (g i j),H,I,rfl,q⟩
def CDiv (i j:Int):Prop:=0<j/\j<1073741824
def qgn (i j:Int):Prop:=0<=j/\j<=1000000/\i.natAbs<2 ^ 64
def CMul (i j:Int):Prop:=(-(2 ^ 64)<i/\i<2 ^ 64)\/(-(2 ^ 64)<j/\j<2 ^ 64)
theorem CMul.ok {i j:Int} (h:CMul i j):IntMulOk i j:=by
 rcases h with ⟨h1,a⟩ | ⟨h1,a⟩
 ·exact .of_left (intBits_le_64 h1 a)
 ·exact .of_right (intBits_le_64 h1 a)
theorem two_pow_nn (k:Nat):(0:Int)<=2 ^ k:=by
 rw [two_pow_cast];exact Int.natCast_nonneg _
theorem op_add:OpR X (binaryOp .Add) (rI0 fun i j=>.int (i+j)):=qfY fun _ _ _ _ _ _ _ q=>add_int q
theorem qc4:OpR X (binaryOp .Sub) (rI0 fun i j=>.int (i-j)):=qfY fun _ _ _ _ _ _ _ q=>sub_int q
theorem op_mul:OpR X (binaryOp .Mult) (rI CMul fun i j=>.int (i*j)):=opI fun _ _ _ _ _ _ _ hc q=>mul_int q hc.ok
theorem qdL:OpR X (binaryOp .FloorDiv) (rI CDiv fun i j=>.int (i / j)):=opI fun i j _ _ _ _ _ hc q=>by
 have h1:(0:Int)<j:=hc.1;have a:j<1073741824:=hc.2;exact floordiv_int (by omega) (by rw [Int.fdiv_eq_ediv_of_nonneg i (by omega)];exact q) (.inl (PyProof.noPylong_small (by omega)))
theorem zF:OpR X (binaryOp .Mod) (rI (fun _ j=>0<j) fun i j=>.int (i % j)):=opI fun i j _ _ _ _ _ hc q=>by
 have h1:(0:Int)<j:=hc;exact mod_int' (by omega) (by rw [Int.fmod_eq_emod_of_nonneg i (by omega)];exact q)
theorem op_pow:OpR X (binaryOp .Pow) (rI qgn fun i j=>.int (i ^ j.toNat)):=opI fun _ _ _ _ _ _ _ hc q=>pow_int_small hc.1 hc.2.1 hc.2.2 q
theorem qao:OpR X (binaryOp .LShift) (rI qgn fun i j=>.int (i*2 ^ j.toNat)):=opI fun _ _ _ _ _ _ _ hc q=>lshift_int_small hc.1 hc.2.1 hc.2.2 q
theorem qc5:OpR X (binaryOp .RShift) (rI (fun _ j=>0<=j) fun i j=>.int (i / 2 ^ j.toNat)):=opI fun i j _ _ _ _ _ hc q =>
 rshift_int hc (by rw [Int.fdiv_eq_ediv_of_nonneg i (two_pow_nn _)];exact q)
theorem qaM:OpR X (binaryOp .BitAnd) (rI0 fun i j=>.int (Builtin.bitAnd i j)):=qfY fun _ _ _ _ _ _ _ q=>and_int q
theorem qeA:OpR X (binaryOp .BitOr) (rI0 fun i j=>.int (Builtin.bitOr i j)):=qfY fun _ _ _ _ _ _ _ q=>or_int q
theorem unI {f:Value->Sem Value} {g:Int->Int}
  (a:∀ (i:Int) (t:Tok) (s:Shared) (Q:Value->Shared->Prop) (E:Value->Shared->Prop),Q (.int (g i) s.toks) { s with toks:=s.toks+1 }->wpAny (model X.prog X.w) X.A (f (.int i t)) Q E s) :
  UnR X f (rU fun i=>.int (g i)):=by
 intro pins s σ H x v Q I b h;obtain ⟨i,rfl,q⟩:=h;obtain ⟨t,rfl⟩:=b;exact a i t s _ _ ⟨.int (g i),H,I.tok _,⟨_,rfl⟩,q⟩
theorem qaN:UnR X (unaryOp .USub) (rU fun i=>.int (-i)):=unI fun _ _ _ _ _ q=>neg_int q
theorem qdM:UnR X (unaryOp .Invert) (rU fun i=>.int (Builtin.bitNot i)):=unI fun _ _ _ _ _ q=>invert_int q
end
noncomputable def scal:V->V->Bool
 | .non,.non=>true | .non,.int _=>true | .int _,.non=>true | .non,.bl _=>true | .bl _,.non=>true | .non,.str _=>true | .str _,.non=>true
 | .int _,.int _=>true | .bl _,.bl _=>true | .str _,.str _=>true | .byt _,.byt _=>true
 | .int _,.str _=>true | .str _,.int _=>true | .bl _,.str _=>true | .str _,.bl _=>true
 | _,_=>false
def rEq:R2:=fun x y H Q=>scal x y=true/\Q (.bl (decide (x=y))) H
theorem dec_bl {i j:Bool}:decide (V.bl i=V.bl j)=(i==j):=by
 rw [Yw];simp
section
variable {X:Cx} {a b c:Expr} {ta tb tc:TE} {pos:Pos}
theorem qc6 {Q:VK} {k k':Bool} (I:Inv X pins σ H s) (q:Q (.bl k) H) (e:k=k'):EP X pins σ Q (.bool k') s:=by
 subst e;exact ⟨.bl k,H,I,rfl,q⟩
theorem qdN:OpR X (compareOp .Lt) (rI0 fun i j=>.bl (decide (i<j))):=qf8 fun _ _ _ _ _ _ _ q=>lt_int q
theorem op_le:OpR X (compareOp .LtE) (rI0 fun i j=>.bl (decide (i<=j))):=qf8 fun _ _ _ _ _ _ _ q=>le_int q
theorem qeB:OpR X (compareOp .Gt) (rI0 fun i j=>.bl (decide (j<i))):=qf8 fun _ _ _ _ _ _ _ q=>gt_int q
theorem op_isN:OpR X (compareOp .Is) (fun x y H Q=>y=.non/\Q (.bl (decide (x=.non))) H):=by
 intro pins s σ H x y v u Q I a b h;obtain ⟨rfl,q⟩:=h;cases b;refine is_none_gen (qc6 I q ?_);cases x<;>first
  | (cases a;rfl)
  | (obtain ⟨t,rfl⟩:=a;rfl)
theorem qcK:OpR X (compareOp .IsNot) (fun x y H Q=>y=.non/\Q (.bl (!decide (x=.non))) H):=by
 intro pins s σ H x y v u Q I a b h;obtain ⟨rfl,q⟩:=h;cases b;refine isnot_none_gen (qc6 I q ?_);cases x<;>first
  | (cases a;rfl)
  | (obtain ⟨t,rfl⟩:=a;rfl)
theorem qC (b:Expr) (h:op≠.In:=by decide) (d:op≠.NotIn:=by decide):behindInMarks op b=false:=by
 have a:(op==CmpOp.In)=false:=by cases op<;>first | rfl | exact absurd rfl h
 have c:(op==CmpOp.NotIn)=false:=by cases op<;>first | rfl | exact absurd rfl d
 cases b<;>simp [behindInMarks,a,c]
theorem jz (i:OpR X (compareOp op) r) (e:PE X a ta) (f:PE X b tb) (g:behindInMarks op b=false):PE X (.Compare a [op] [b] pos) (tOp r ta tb):=by
 intro pins s σ H Q I h;exact wpAny_Compare1 (qf7 e f I h fun v u m x y c d j l q=>i pins m σ c x y v u Q d j l q) g
def qfc (t:TE):TT:=fun σ H Q=>t σ H fun x H'=>∃ k,x=.bl k/\Q k H'
theorem qp (p:OpR X (compareOp op) r) (m:PE X a ta) (n:PE X b tb) (o:behindInMarks op b=false):PT X (.Compare a [op] [b] pos) (qfc (tOp r ta tb)):=by
 intro pins s σ H Q I h
 refine wpAny_isTrue_Compare1 (thn (m pins s σ H _ I h) fun v D ⟨x,d,i,A,q⟩=>thn (n pins D σ d _ i q) fun u E ⟨y,f,j,B,t⟩ =>
  thn (p pins E σ f x y v u _ j A B t) fun c F ⟨z,g,l,C,k,e,w⟩=>?_) o
 subst e;cases C;exact xG ⟨g,l,w⟩
def qdO (r r':R2) (ta tb tc:TE):TE:=fun σ H Q=>ta σ H fun x b=>tb σ b fun y c=>r x y c fun z a=>∃ k,z=.bl k /\
 (if k=true then tc σ a fun e d=>r' y e d Q else Q (.bl false) a)
theorem qc7 (C:OpR X (compareOp op) r) (f:OpR X (compareOp op') r') (w:PE X a ta) (A:PE X b tb) (hc:PE X c tc)
  (B:lastMarks [op,op'] [b,c]=false:=by with_unfolding_all rfl):PE X (.Compare a [op,op'] [b,c] pos) (qdO r r' ta tb tc):=by
 intro pins s σ H Q I h
 refine Compare_chain (thn (w pins s σ H _ I h) fun v L ⟨x,m,p,G,D⟩=>chain_link (thn (A pins L σ m _ p D) fun u M ⟨y,n,q,l,E⟩ =>
  thn (C pins M σ n x y v u _ q G l E) fun d N ⟨z,g,i,J,k,e,j⟩=>?_)) B
 subst e;cases J;refine xG ?_
 cases k with
 | false=>exact ite_ff ⟨.bl false,g,i,rfl,j⟩
 | true=>exact ite_tt (chain_last (thn (hc pins N σ g _ i j) fun P O ⟨R,o,t,K,F⟩=>f pins O σ o y R u P Q t l K F))
theorem qc8 (G:OpR X (compareOp op) r) (f:OpR X (compareOp op') r') (D:PE X a ta) (E:PE X b tb) (hc:PE X c tc)
  (F:lastMarks [op,op'] [b,c]=false:=by with_unfolding_all rfl):PT X (.Compare a [op,op'] [b,c] pos) (qfc (qdO r r' ta tb tc)):=by
 intro pins s σ H Q I h
 refine isTrue_chain (thn (D pins s σ H _ I h) fun v T ⟨x,m,q,O,K⟩=>test_link (thn (E pins T σ m _ q K) fun u U ⟨y,n,t,l,L⟩ =>
  thn (G pins U σ n x y v u _ t O l L) fun d W ⟨z,g,i,P,k,e,j⟩=>?_)) F
 subst e;cases P;refine xG ?_
 cases k with
 | false =>
  obtain ⟨k',B,J⟩:=j;cases B;exact ite_ff ⟨g,i,J⟩
 | true =>
  refine ite_tt (test_last (thn (hc pins W σ g _ i j) fun Z Y ⟨z',o,w,R,M⟩=>thn (f pins Y σ o y z' u Z _ w l R M) fun d' s5 ⟨z2,p,A,S,k2,C,N⟩=>?_));subst C;cases S;exact xG ⟨p,A,N⟩
theorem qbD:(sizeLine:Nat)<2 ^ 63:=by rw [YL];decide
theorem op_add_str:OpR X (binaryOp .Add) (fun x y H Q=>∃ i j,x=.str i/\y=.str j/\i.length+j.length<=sizeLine/\Q (.str (i++j)) H):=by
 intro pins s σ H x y v u Q I a b h;obtain ⟨i,j,rfl,rfl,hz,q⟩:=h;obtain ⟨t,rfl⟩:=a;obtain ⟨t',rfl⟩:=b;exact add_str (fun t' tk=>⟨.str (i++j),H,I.tok _,⟨_,rfl⟩,q⟩) hz
theorem qaO {x:V} (r:Vals [x] us):∃ u,us=[u]/\RelV x u:=by
 cases r with
 | cons r1 r2=>cases r2;exact ⟨_,rfl,r1⟩
theorem qeC {x:V} (r:Vals [x,y] us):∃ u a,us=[u,a]/\RelV x u/\RelV y a:=by
 cases r with
 | cons r1 r2 =>
  cases r2 with
  | cons r3 r4=>cases r4;exact ⟨_,_,rfl,r1,r3⟩
theorem qbc (hc:X.calm=true):zm X (.builtin "max") (fun xs H Q=>∃ i j,xs=[.int i,.int j]/\Q (.int (if j>i then j else i)) H):=by
 intro pins s σ H xs us Q I r h;obtain ⟨i,j,rfl,q⟩:=h;obtain ⟨u,b,rfl,⟨t,rfl⟩,⟨t',rfl⟩⟩:=qeC r;refine max_two_ints (I.ok.hd hc) fun h' tk k=>⟨_,H,I.kept k,?_,q⟩;by_cases a:j>i
 ·rw [yF a,yF a];exact ⟨_,rfl⟩
 ·rw [yy a,yy a];exact ⟨_,rfl⟩
theorem qce:zm X (.type "int") (fun xs H Q=>(∃ i,xs=[.int i]/\Q (.int i) H)\/∃ k,xs=[.bl k]/\Q (.int (if k then 1 else 0)) H):=by
 intro pins s σ H xs us Q I r h;rcases h with ⟨i,rfl,q⟩ | ⟨k,rfl,q⟩
 ·obtain ⟨u,rfl,t,rfl⟩:=qaO r;exact call_int_int ⟨.int i,H,I,⟨_,rfl⟩,q⟩
 ·obtain ⟨u,rfl,a⟩:=qaO r;cases a;exact call_int_bool ⟨.int (if k then 1 else 0),H,I.tok _,⟨_,rfl⟩,q⟩
end
structure ObjM (h:Heap) (x dx C:Addr) (mA:Str->Option Value):Prop where
 obj:h.get? x=some (PySem.W.instObj C dx)
 ns:h.Ns1 dx mA
 ne:dx≠x
theorem qcf (n:h.Ns1 dx mA):∃ od,h.get? dx=some od/\∀ name,PySem.W.lookIn name od=some (mA name):=by
 obtain ⟨o,es,ep,i,d,f,_,g⟩:=n;refine ⟨o,i,fun name=>?_⟩;have e:=g name;unfold nsFind findBy at e;rw [<- Array.find?_toList] at e;unfold PySem.W.lookIn;rw [d];dsimp only;split
 ·rename_i y q
  rw [q] at e;exact congrArg some e
 ·rename_i q
  rw [q] at e
  have a:es.toList.any (·.refKey)=false:=by
   rw [List.any_eq_false];intro y j;obtain ⟨z,t,b⟩:=f y (Array.mem_toList_iff.mp j);simp [DictEntry.refKey,b]
  have c:¬ es.toList.any (·.refKey)=true:=by rw [a];exact Yn
  rw [yy c];exact congrArg some e
theorem ObjM.look {x:Addr} (I:ObjM h x dx C mA):∃ od,PySem.W.InstAt h x (PySem.W.instObj C dx) C (some od)/\∀ name,PySem.W.lookIn name od=some (mA name):=
 let ⟨od,ho,hl⟩:=qcf I.ns
 ⟨od,⟨I.obj,rfl,rfl,ho⟩,hl⟩
section
variable {prog:Program} {w:World} {A:Around} {E:Value->Shared->Prop} {s:Shared} {K:yg} {x dx C f:Addr} {mA:Str->Option Value} {name:Str} {v:Value}
theorem get_map {a:Bool} {Q:Value->Shared->Prop} (X:K.In s.heap) (I:ObjM s.heap x dx C mA) (d:PySem.W.plainGet K C name=true) (e:PySem.W.hasDictIn K C=true)
  (c:PySem.W.findIn K (.ref C) name=some none) (hv:mA name=some v) (b:PySem.W.handedIn v=true) (h:Q v { s with toks:=s.toks+1 }) :
  wpAny (model prog w) A (getAttr (.ref x) name a) Q E s:=by
 obtain ⟨od,J,hl⟩:=I.look;exact PySem.W.get_value X J (kx d).1 (PySem.W.findObj_own e c rfl (by rw [hl,hv])) b h
theorem get_meth {Q:Value×List Value->Shared->Prop} (X:K.In s.heap) (I:ObjM s.heap x dx C mA) (a:PySem.W.plainGet K C name=true)
  (b:PySem.W.findIn K (.ref C) name=some (some (.ref f))) (c:PySem.W.isFn K (.ref f)=true) (hv:mA name=none) (h:Q (.ref f,[.ref x]) s) :
  wpAny (model prog w) A (getMethod (.ref x) name pl) Q E s:=by
 obtain ⟨od,J,hl⟩:=I.look;exact PySem.W.method_fn X J (kx a).1 (kx a).2 b (Yk.mp c) (by show (PySem.W.lookIn name od).map (·.isSome)=some false;rw [hl,hv];rfl) h
theorem set_map {ns:List Str} {Q:Unit->Shared->Prop} (X:K.In s.heap) (I:ObjM s.heap x dx C mA)
  (o:PySem.W.findIn K (.ref C) "__setattr__"=some (some (.builtin "object.__setattr__"))) (n:PySem.W.plainOver K C=true) (p:PySem.W.takerIn K C name=some none) (m:PySem.W.hasDictIn K C=true)
  (hw:PySem.Within mA ns) (hsz:ns.length<=sizeLine)
  (h:∀ h',ObjM h' x dx C (fun y=>if y=name then some v else mA y)->Heap.SameBut dx s.heap h'->Q () { s with heap:=h',toks:=s.toks+2 }) :
  wpAny (model prog w) A (setAttr (.ref x) name v) Q E s:=by
 obtain ⟨od,J,hl⟩:=I.look;refine PySem.W.set_plain X J o (PySem.W.osa_open (s:={ s with toks:=s.toks+1 }) (r:=none) X J n p fun b=>?_);obtain ⟨t,hc,f⟩:=xN m;have q:s.heap.get? x=some ⟨.ref C,some dx,.plain,#[]⟩:=I.obj;refine yr (yw (yr (yr (wpAny_loadPart q (yr (PySem.W.Looks.here (s:={ s with toks:=s.toks+1 }) (ky X hc) ?_))))));rw [f];refine yw (a:=some dx) (yr (yw (yr ?_)));refine wpAny_nsSet1 (s:={ s with toks:=s.toks+1 }) I.ns fun h' c d=>?_;obtain ⟨u,l,j,i,g,e⟩:=c.count (PySem.Within.cons name v hw);refine yr (wpAny_lookBehind i (by rw [g];exact pastItsLine_dict (yi e (by rw [yC];omega))) ?_);exact yw (h _ ⟨(d.2 _ (Yh I.ne)).trans I.obj,c,I.ne⟩ d)
theorem make_map {R:Result->Shared->Prop} {vs:List Value} (X:K.In s.heap) (c:PySem.W.makesIn K C=true)
  (b:PySem.W.findIn K (.ref C) "__init__"=some (some (.ref f))) (a:PySem.W.typeIn K (.ref f)=some (.type "function"))
  (h:codeAny (model prog w) (A.under (.builtin "type.__call__" ⟨.ref C::vs,kw⟩)) (.call (.ref f) ⟨.ref (s.heap.objs.size+1)::vs,kw⟩) (PySem.W.InitBack (s.heap.objs.size+1) R)
   { s with heap:=(s.heap.push PySem.W.emptyDict).push (PySem.W.instObj C s.heap.objs.size) }) :
  codeAny (model prog w) A (.call (.ref C) ⟨vs,kw⟩) R s:=by
 obtain ⟨e,g,d,t,i⟩:=s;exact PySem.W.make_core (PySem.W.makes_of X c) (YO X b) (fun self=>PySem.W.bind_fn X self a) (.inl rfl) h
end
noncomputable def qE (f:Str) (v:V):List (Str×V)->List (Str×V)
 | []=>[(f,v)]
 | (g,x)::r=>if g=f then (g,v)::r else (g,x)::qE f v r
theorem qB (f g:Str) (v:V):∀ fs:List (Str×V),(qE f v fs).lookup g=if g=f then some v else fs.lookup g
 | []=>by
  show List.lookup g [(f,v)]=_;by_cases h:g=f
  ·have a:(g==f)=true:=Yk.mpr h;simp only [List.lookup,a,yF h]
  ·have a:(g==f)=false:=Yx.mpr h;simp only [List.lookup,a,yy h]
 | (k,x)::r=>by
  have c:=qB f g v r;rw [show qE f v ((k,x)::r)=(if k=f then (k,v)::r else (k,x)::qE f v r) from rfl];by_cases b:k=f
  ·rw [yF b];by_cases h:g=k
   ·have a:(g==k)=true:=Yk.mpr h;simp only [List.lookup,a,yF (h.trans b)]
   ·have a:(g==k)=false:=Yx.mpr h;simp only [List.lookup,a,yy (fun e:g=f=>h (e.trans b.symm))]
  ·rw [yy b];by_cases h:g=k
   ·have a:(g==k)=true:=Yk.mpr h;simp only [List.lookup,a,yy (fun e:g=f=>b (h.symm.trans e))]
   ·have a:(g==k)=false:=Yx.mpr h;simp only [List.lookup,a];exact c
theorem qbd (f:Str) (v:V):∀ fs:List (Str×V),f∈(qE f v fs).map (·.1)/\∀ g,g∈fs.map (·.1)->g∈(qE f v fs).map (·.1)
 | []=>⟨by simp [qE],fun g h=>by simp at h⟩
 | (k,x)::r=>by
  obtain ⟨b,c⟩:=qbd f v r;rw [show qE f v ((k,x)::r)=(if k=f then (k,v)::r else (k,x)::qE f v r) from rfl];by_cases a:k=f
  ·rw [yF a];subst a;exact ⟨by simp,fun g h=>by simpa using h⟩
  ·rw [yy a];refine ⟨?_,fun g h=>?_⟩
   ·rw [YG];exact yz _ b
   ·rw [YG] at h ⊢;rcases yv.mp h with e | e
    ·exact yv.mpr (.inl e)
    ·exact yz _ (c g e)
theorem ju (f:Str) (v:V):∀ fs:List (Str×V),(qE f v fs).length<=fs.length+1
 | []=>by simp [qE]
 | (k,x)::r=>by
  have b:=ju f v r;rw [show qE f v ((k,x)::r)=(if k=f then (k,v)::r else (k,x)::qE f v r) from rfl];by_cases a:k=f
  ·rw [yF a,yC,yC];omega
  ·rw [yy a,yC,yC];omega
theorem RelO.some_of {o:Option Value} (r:RelO (some v) o):∃ u,o=some u/\RelV v u:=by
 cases o with
 | none=>exact (show False from r).elim
 | some u=>exact ⟨u,rfl,r⟩
theorem RelO.none_of {o:Option Value} (r:RelO none o):o=none:=by
 cases o with
 | none=>rfl
 | some u=>exact (show False from r).elim
theorem qcg (r:RelV v u):PySem.W.handedIn u=true:=by
 cases v with
 | non=>cases (show u=Value.none from r);rfl
 | bl b=>cases (show u=Value.bool b from r);rfl
 | int i=>obtain ⟨t,e⟩:=(show ∃ t,u=Value.int i t from r);cases e;rfl
 | str x=>obtain ⟨t,e⟩:=(show ∃ t,u=Value.str x t from r);cases e;rfl
 | byt b=>obtain ⟨t,e⟩:=(show ∃ t,u=Value.bytes b t from r);cases e;rfl
 | flt b=>obtain ⟨t,e⟩:=(show ∃ t,u=Value.float b t from r);cases e;rfl
 | ref a=>cases (show u=Value.ref a from r);rfl
 | ty n=>cases (show u=Value.type n from r);rfl
section
variable {P:Program} {w:World} {H H':Hp} {h h':Heap} {a C dx:Addr} {fs fs':List (Str×V)}
theorem qaH (b:HOk P w H h) (e:H a=some (.ins C dx fs)):∃ mA,ObjM h a dx C mA/\(∀ f,RelO (fs.lookup f) (mA f))/\PySem.Within mA (fs.map (·.1))/\fs.length<=1000/\H dx=some (.own a):=by
 obtain ⟨d,z,ne,c,mA,n,r,q⟩:=(show ObjOk P w H h a (.ins C dx fs) from b a _ e);exact ⟨mA,⟨c,n,ne⟩,r,q,z,d⟩
end
structure Cls (K:yg) (C:Addr):Prop where
 pg:PySem.W.plainGet K C Str.empty=true
 hd:PySem.W.hasDictIn K C=true
 po:PySem.W.plainOver K C=true
 sa:PySem.W.findIn K (.ref C) "__setattr__"=some (some (.builtin "object.__setattr__"))
theorem Cls.get {K:yg} (c:Cls K C) (f:Str):PySem.W.plainGet K C f=true:=c.pg
def NoAttr (K:yg) (C:Addr) (f:Str):Prop:=PySem.W.findIn K (.ref C) f=some none
theorem NoAttr.taker {K:yg} {f:Str} (n:NoAttr K C f):PySem.W.takerIn K C f=some none:=by
 unfold PySem.W.takerIn;rw [show PySem.W.findIn K (.ref C) f=some none from n];rfl
structure Con (K:yg) (C:Addr) (f:Str) (v:V) (u:Value):Prop where
 at_:PySem.W.findIn K (.ref C) f=some (some u)
 rel:RelV v u
 get:PySem.W.specialIn K u "__get__"=some none
 cp:PySem.W.copiedNames.contains f=false
structure Meth (K:yg) (C:Addr) (m:Str) (f:Addr):Prop where
 at_:PySem.W.findIn K (.ref C) m=some (some (.ref f))
 fn:PySem.W.isFn K (.ref f)=true
 kp:PySem.W.keepIn K (.ref f)=true
section
variable {X:Cx} {pins:List (Addr×Obj)} {σ:St} {H:Hp} {s:Shared} {a C dx:Addr} {fs:List (Str×V)} {f:Str} {v:V} {A:Around} {E:Value->Shared->Prop}
theorem getattr_ok {b:Bool} {Q:Value->Shared->Prop} (I:Inv X pins σ H s) (e:H a=some (.ins C dx fs)) (c:Cls X.K C) (n:NoAttr X.K C f) (l:fs.lookup f=some v)
  (h:∀ u s',Inv X pins σ H s'->RelV v u->Q u s'):wpAny (model X.prog X.w) A (getAttr (.ref a) f b) Q E s:=by
 obtain ⟨mA,O,r,_,_,_⟩:=qaH I.hok e;obtain ⟨u,g,d⟩:=RelO.some_of (v:=v) (o:=mA f) (by rw [<- l];exact r f);exact get_map I.kIn O (c.get f) c.hd n g (qcg d) (h u _ (I.tok _) d)
theorem qaI {m:Str} {g:Addr} {Q:Value×List Value->Shared->Prop} (I:Inv X pins σ H s) (e:H a=some (.ins C dx fs)) (c:Cls X.K C) (k:Meth X.K C m g) (l:fs.lookup m=none)
  (h:Q (.ref g,[.ref a]) s):wpAny (model X.prog X.w) A (getMethod (.ref a) m pl) Q E s:=by
 obtain ⟨mA,O,r,_,_,_⟩:=qaH I.hok e;have b:mA m=none:=RelO.none_of (by rw [<- l];exact r m);exact get_meth I.kIn O (c.get m) k.at_ k.fn b h
theorem setattr_ok {Q:Unit->Shared->Prop} (I:Inv X pins σ H s) (e:H a=some (.ins C dx fs)) (c:Cls X.K C) (n:NoAttr X.K C f) (hl:fs.length<1000) (t:RelV y u)
  (h:∀ s',Inv X pins σ (upd H a (.ins C dx (qE f y fs))) s'->Q () s'):wpAny (model X.prog X.w) A (setAttr (.ref a) f u) Q E s:=by
 obtain ⟨mA,O,r,j,_,i⟩:=qaH I.hok e;have hz:(fs.map (·.1)).length<=sizeLine:=by rw [ya,YL];omega
 refine set_map I.kIn O c.sa c.po n.taker c.hd j hz fun h' d v=>h _ ?_;have m:∃ o,h'.get? dx=some o:=let ⟨o,_,_,e',_⟩:=d.ns;⟨o,e'⟩;refine I.write (x:=a) (e:=dx) (by rw [e];exact YM) (.inr i) (fun b q l z=>(v.2 b l).trans z) m ?_;refine ⟨by rw [qf O.ne];exact i,?_,O.ne,d.obj,_,d.ns,fun g=>?_,fun g p=>?_⟩
 ·have:=ju f y fs;omega
 ·show RelO ((qE f y fs).lookup g) (if g=f then some u else mA g);rw [qB];by_cases q:g=f
  ·rw [yF q,yF q];exact t
  ·rw [yy q,yy q];exact r g
 ·by_cases q:g=f
  ·rw [q];exact (qbd f y fs).1
  ·refine (qbd f y fs).2 g (j g fun z=>p ?_);show (if g=f then some u else mA g)=none;rw [yy q];exact z
theorem Inv.made (I:Inv X pins σ H s):Inv X pins σ (upd (upd H s.heap.objs.size (.own (s.heap.objs.size+1))) (s.heap.objs.size+1) (.ins C s.heap.objs.size []))
  { s with heap:=(s.heap.push PySem.W.emptyDict).push (PySem.W.instObj C s.heap.objs.size) }:=by
 have c:(s.heap.push PySem.W.emptyDict).get? s.heap.objs.size=some PySem.W.emptyDict:=yV s.heap rfl
 have f:((s.heap.push PySem.W.emptyDict).push (PySem.W.instObj C s.heap.objs.size)).get? (s.heap.objs.size+1)=some (PySem.W.instObj C s.heap.objs.size):=by
  have:=yV (s.heap.push PySem.W.emptyDict) (o:=PySem.W.instObj C s.heap.objs.size) rfl
  rwa [YU] at this
 have g:(s.heap.push PySem.W.emptyDict).Ns s.heap.objs.size (fun _=>none):=⟨PySem.W.emptyDict,#[],_,c,rfl,(fun e h=>absurd h (by simp)),fun _=>rfl⟩;have d:=I.laid (a:=s.heap.objs.size) (o:=.own (s.heap.objs.size+1)) (h':=s.heap.push PySem.W.emptyDict) (t':=s.toks) (fun b u q=>yu _ q) (yh _) ⟨_,c⟩;refine d.laid (a:=s.heap.objs.size+1) (o:=.ins C s.heap.objs.size []) (t':=s.toks) (fun b u q=>yu _ q) (XJ (YU _ _)) ?_;have ne:s.heap.objs.size≠s.heap.objs.size+1:=yI (X7 _);refine ⟨by rw [qf ne,qb],YI _,ne,f,fun _=>none,(Heap.Ns1.of_empty g).at fun o q=>yu _ q,fun _=>YM,fun y i=>absurd rfl i⟩
theorem attr_of {prog:Program} {env:Env} {f:Str} {Q:Value->Shared->Prop} (b:attributeBase e f env (eval e env)=eval e env)
  (h:wpAny (model prog w) A (eval e env) (fun o a=>wpAny (model prog w) A (getAttr o f true) Q E a) E s):wpAny (model prog w) A (eval (.Attribute e f pos) env) Q E s:=
 Attribute_any_ h (by rw [arm_eval_Attribute,b])
end
section
variable {X:Cx} {o e value:Expr} {f:Str} {pos pos' tpos:Pos} {ta tv:TE}
end
section
variable {X:Cx} {pins:List (Addr×Obj)} {σ:St} {H:Hp} {s:Shared} {A:Around} {E:Value->Shared->Prop} {Q:Value->Shared->Prop} {c:Value} {b:Bool}
inductive TyOf (K:yg) (H:Hp):V->Value->Prop where
 | non:TyOf K H .non (.type "NoneType")
 | bl (x:Bool):TyOf K H (.bl x) (.type "bool")
 | int (i:Int):TyOf K H (.int i) (.type "int")
 | str (x:Str):TyOf K H (.str x) (.type "str")
 | flt (x:UInt64):TyOf K H (.flt x) (.type "float")
 | lst {a:Addr} {xs:List V} (e:H a=some (.lst xs)):TyOf K H (.ref a) (.type "list")
 | frz {a:Addr} {o:Obj} {xs:List V} (e:H a=some (.frz o (.lst xs))):TyOf K H (.ref a) (.type "list")
 | tup {a:Addr} {xs:List V} (e:H a=some (.tup xs)):TyOf K H (.ref a) (.type "tuple")
 | dK {a:Addr} {kvs:List (Key×V)} (e:H a=some (.dK kvs)):TyOf K H (.ref a) (.type "dict")
 | dT {a:Addr} {kvs:List (List Key×V)} (e:H a=some (.dT kvs)):TyOf K H (.ref a) (.type "dict")
 | ins {a C dx:Addr} {fs:List (Str×V)} (e:H a=some (.ins C dx fs)) (cl:Cls K C) (ha:PySem.W.findIn K (.ref C) "__class__"=some (some (.builtin "object.__class__")))
   (hn:PySem.W.specialIn K (.builtin "object.__class__") "__get__"=some (some (.builtin "getset_descriptor.__get__"))) (htk:PySem.W.takesIn K (.builtin "object.__class__")=some true)
   (hm:PySem.W.mroIn K C (.type "object")=some true):TyOf K H (.ref a) (.ref C)
end
structure Room (k:Nat) (A:Around):Prop where
 hd:A.handled=none
 dp:A.depth+3*k+5<recursionLimit
 un:A.units+16*k+200<cLine
 gd:A.guards=some []
theorem Room.mono {k:Nat} (r:Room k A) (h:j<=k):Room j A:=⟨r.hd,by have:=r.dp;omega,by have:=r.un;omega,r.gd⟩
theorem Room.deeper {k:Nat} (r:Room (k+1) A) (env:Env):Room k (A.deeper env):=
 ⟨r.hd,by have:=r.dp;show A.depth+1+3*k+5<_;omega,by have:=r.un;show A.units+3+16*k+200<_;omega,r.gd⟩
theorem make_depth:(A.under (.builtin "type.__call__" ⟨.ref C::us,kw⟩)).depth=A.depth+1:=by
 first | rfl | simp [Around.under,Code.weight,Code.isCreation,Code.isGuard,Code.isCaller,Code.frames,Code.isFrame,guardIds]
theorem make_units:(A.under (.builtin "type.__call__" ⟨.ref C::us,kw⟩)).units=A.units+1:=by
 first | rfl | simp [Around.under,Code.cUnits,Code.frames,Code.isFrame]
theorem make_guards:(A.under (.builtin "type.__call__" ⟨.ref C::us,kw⟩)).guards=A.guards:=by
 first | rfl | simp [Around.under,Code.guards,Code.isGuard,guardIds,pushGuards]
theorem Room.make {k:Nat} (r:Room (k+1) A) (C:Addr) (us:List Value) (kw:List (Str×Value)):Room k (A.under (.builtin "type.__call__" ⟨.ref C::us,kw⟩)):=
 ⟨r.hd,by have:=r.dp;rw [make_depth];omega,by have:=r.un;rw [make_units];omega,by rw [make_guards];exact r.gd⟩
theorem Room.depth {k:Nat} (r:Room k A):A.depth<recursionLimit:=by have:=r.dp;omega
def qfZ:TA:=fun _ H Q=>Q [] H
def qfF (ta:TE) (c:TA):TA:=fun σ H Q=>ta σ H fun x a=>c σ a fun xs b=>Q (x::xs) b
section
variable {X:Cx} {e:Expr} {es:List Expr} {te:TE} {t:TA} {pos:Pos}
theorem qd:PA X [] qfZ:=fun _ _ _ _ H Q I h=>XM ⟨[],H,I,.nil,h⟩
theorem qa (f:PE X e te) (g:PA X es t) (i:starEach (e::es) X.env=(false,eval e X.env)::starEach es X.env:=by rfl):PA X (e::es) (qfF te t):=by
 intro pos pins s σ H Q I h;rw [i];show wpAny _ _ (spliced ((false,eval e X.env)::backTo pos (starEach es X.env))) _ _ s;refine XD (thn (f pins s σ H _ I h) fun u o ⟨x,a,c,m,j⟩=>?_);exact thn (g pos pins o σ a _ c j) fun us p ⟨xs,b,d,n,l⟩=>⟨x::xs,b,d,.cons m n,l⟩
def qgo (t:TA):TE:=fun σ H Q=>t σ H fun xs a=>xs.length<=sizeLine/\∀ p,a p=none->Q (.ref p) (upd a p (.tup xs))
def qgp (t:TA):TE:=fun σ H Q=>t σ H fun xs a=>xs.length<=sizeLine/\∀ p,a p=none->Q (.ref p) (upd a p (.lst xs))
theorem jR {x1} (h:PA X es t):PE X (.Tuple es x1 pos) (qgo t):=by
 intro pins s σ H Q I g;refine wpAny_Tuple_spliced (thn (h pos pins s σ H _ I g) fun us a ⟨xs,c,d,r,z,q⟩=>⟨by rw [<- r.length];exact z,?_⟩);have f:c a.heap.objs.size=none:=d.hok.fresh (yh _);refine ⟨.ref a.heap.objs.size,upd c a.heap.objs.size (.tup xs),d.laid (t':=a.toks) (fun b u e=>yu _ e) (yh _) ?_,rfl,q _ f⟩;exact ⟨z,us,r,⟨_,yV _ rfl,rfl,_,rfl⟩⟩
theorem qJ (h:PA X es t):PE X (.List es pos) (qgp t):=by
 intro pins s σ H Q I g;refine wpAny_List_spliced (thn (h pos pins s σ H _ I g) fun us a ⟨xs,c,d,r,z,q⟩=>⟨by rw [<- r.length];exact z,?_⟩);have f:c a.heap.objs.size=none:=d.hok.fresh (yh _);refine ⟨.ref a.heap.objs.size,upd c a.heap.objs.size (.lst xs),d.laid (t':=a.toks) (fun b u e=>yu _ e) (yh _) ?_,rfl,q _ f⟩;exact ⟨z,us,0,r,yV _ rfl⟩
end
abbrev Sp:=List V->Hp->VK->XK->Prop
abbrev CXT:=List Env->Hp->Shared->XK->Value->Shared->Prop
structure Env0 (P:Program) (w:World) (K:yg) (mg:Str->Option Value) (base:Heap) (A:Around) (outer:List Env) (s:Shared) (H:Hp):Prop where
 frames:A.frames=some outer
 mod:Mod K mg base
 bs:∀ b o,base.get? b=some o->s.heap.get? b=some o/\H b=none
 bsz:base.objs.size<=s.heap.objs.size
 funs:s.heap.FunFrames base outer
 frf:∀ b∈frs outer,H b=none
 hok:HOk P w H s.heap
 bare:AllBare s.gens
def CE (outer:List Env) (P:Program) (w:World) (H:Hp) (s:Shared) (Q:VK) (u:Value) (s':Shared):Prop:=
 ∃ v H',s'.os=s.os/\AllBare s'.gens/\Un (frs outer) [] H H' s.heap s'.heap/\HOk P w H' s'.heap/\RelV v u/\Q v H'
def CR (CX:CXT) (outer:List Env) (P:Program) (w:World) (H:Hp) (s:Shared) (Q:VK) (E:XK) (r:Result) (s':Shared):Prop:=
 match r with
 | .ok (.ret u)=>CE outer P w H s Q u s'
 | .ok _=>False
 | .error e=>CX outer H s E e s'
structure FnOk (P:Program) (w:World) (K:yg) (mg:Str->Option Value) (base:Heap) (CX:CXT) (k:Nat) (f:Addr) (fd:FuncData) (ps:List Str) (sp:Sp):Prop where
 len:∀ vs H Q E,sp vs H Q E->vs.length=ps.length
 run:∀ (A:Around) (outer:List Env) (s:Shared) (H:Hp) (args:Args) (us:List Value) (vs:List V) (Q:VK) (E:XK),Room k A->Env0 P w K mg base A outer s H->BindsTo s fd args (ps.zip us)->Vals vs us->sp vs H Q E ->
  codeAny (model P w) A (.call (.ref f) args) (CR CX outer P w H s Q E) s
theorem Env0.make {K:yg} (e:Env0 P w K mg base A outer s H) (C:Addr) (us:List Value) (kw:List (Str×Value)) :
  Env0 P w K mg base (A.under (.builtin "type.__call__" ⟨.ref C::us,kw⟩)) outer s H:=⟨by first | exact e.frames | (simpa [Around.under,Code.envs,Code.isFrame,pushEnvs] using e.frames),e.mod,e.bs,e.bsz,e.funs,e.frf,e.hok,e.bare⟩
section
variable {X:Cx} {pins:List (Addr×Obj)} {σ:St} {H:Hp} {s s':Shared}
theorem Inv.env0 (I:Inv X pins σ H s):Env0 X.prog X.w X.K X.mg X.base X.A X.stack s H:=
 ⟨I.ok.frames,I.ok.mod,I.bs,yi I.ok.bsz I.sz,I.stack,I.stkFree,I.hok,I.bare⟩
theorem Inv.after {Q:VK} (I:Inv X pins σ H s) (h:CE X.stack X.prog X.w H s Q u s'):EP X pins σ Q u s':=by
 obtain ⟨v,H',i,a,un,c,r,q⟩:=h;obtain ⟨f,g,d,t,e⟩:=s';obtain rfl:e=s.os:=i;exact ⟨v,H',I.call (h':=f) (g':=g) (d':=d) (t':=t) (ch:=[]) un c a (fun b z=>absurd z (by simp)),r,q⟩
end
def qdP (sp:Sp) (a:List V) (E:XK) (t:TA):TE:=fun σ H Q=>t σ H fun vs b=>sp (vs++a) b Q E
def qdQ (C:Addr) (m:Str) (sp:Sp) (b:List V) (E:XK) (ta:TE) (t:TA):TE:=fun σ H Q=>ta σ H fun x c=>∃ a dx fs,x=.ref a/\c a=some (.ins C dx fs)/\fs.lookup m=none /\
 t σ c fun vs d=>sp (x::(vs++b)) d Q E
def qfd (C:Addr) (sp:Sp) (b:List V) (E:XK) (t:TA):TE:=fun σ H Q=>t σ H fun vs a=>∀ x dx,a x=none->a dx=none->dx≠x ->
 sp (.ref x::(vs++b)) (upd (upd a dx (.own x)) x (.ins C dx [])) (fun v c=>v=.non/\Q (.ref x) c) E
def Binds (K:yg) (b:FuncData) (ps:List Str) (a:List Value):Prop:=
 ∀ (s:Shared) (us:List Value),K.In s.heap->(us++a).length=ps.length->BindsTo s b ⟨us,[]⟩ (ps.zip (us++a))
theorem Binds.all {K:yg} {a:FuncData} (h:∀ us:List Value,us.length=ps.length->bindArgs a ⟨us,[]⟩=pure (ps.zip us)):Binds K a ps []:=fun s us _ hl=>by
 rw [Yd] at hl ⊢;exact .of_eq (h us hl)
def zJ (CX:CXT) (X:Cx) (E:XK):Prop:=∀ (pins:List (Addr×Obj)) (σ:St) (H:Hp) (s:Shared) (e:Value) (s':Shared),Inv X pins σ H s->CX X.stack H s E e s'->X.xe e s'
section
variable {X:Cx} {CX:CXT} {k:Nat} {f C:Addr} {fd:FuncData} {ps:List Str} {sp:Sp} {dvs:List V} {ds:List Value} {E:XK} {x m:Str} {p pos apos:Pos} {e o:Expr} {es:List Expr} {ta:TE} {t:TA}
theorem qc9 {Q:VK} (F:FnOk X.prog X.w X.K X.mg X.base CX k f fd ps sp) (g:Room k X.A) (c:Binds X.K fd ps ds) (d:Vals dvs ds) (i:zJ CX X E)
  (I:Inv X pins σ H s) (r:Vals vs us) (h:sp (vs++dvs) H Q E):wpAny (model X.prog X.w) X.A (call (.ref f) us) (EP X pins σ Q) X.xe s:=by
 have b:Vals (vs++dvs) (us++ds):=r.append d;have hl:(us++ds).length=ps.length:=by rw [<- b.length];exact F.len _ _ _ _ h
 refine xW (XR (F.run X.A X.stack s H ⟨us,[]⟩ (us++ds) (vs++dvs) Q E g I.env0 (c s us I.kIn hl) b h) fun r s' a=>?_)
 cases r with
 | error e=>exact i pins σ H s e s' I a
 | ok fl =>
  cases fl with
  | ret u=>exact I.after a
  | next=>exact False.elim a
  | brk=>exact False.elim a
  | cont=>exact False.elim a
theorem pe_call (F:FnOk X.prog X.w X.K X.mg X.base CX k f fd ps sp) (o:Room k X.A) (l:Gl X x) (n:X.mg x=some (.ref f)) (m:PySem.W.keepIn X.K (.ref f)=true) (g:Binds X.K fd ps ds) (i:Vals dvs ds) (u:zJ CX X E)
  (d:PA X (e::es) t) (a:(x==("__debug__":Str))=false:=by decide) (j:starEach (e::es) X.env=(false,eval e X.env)::starEach es X.env:=by rfl) (b:(backTo pos (starEach es X.env)).any (·.1)=false:=by rfl) :
  PE X (.Call (.Name x p) (e::es) [] pos) (qdP sp dvs E t):=by
 intro pins s σ H Q I h;refine xw (zH I l n ?_ a);refine Y9 (h₀:=X.base) I.ok.mod.kin m (thn (d pos pins s σ H _ I h) fun us y ⟨vs,v,c,r,q⟩=>⟨c.kIn,?_⟩) j b;exact qc9 F o g i u c r q
theorem pe_meth (B:PE X o ta) (c:Cls X.K C) (j:Meth X.K C m f) (F:FnOk X.prog X.w X.K X.mg X.base CX k f fd ps sp) (D:Room k X.A) (y:Binds X.K fd ps ds) (z:Vals dvs ds) (J:zJ CX X E) (v:PA X (e::es) t)
  (d:starEach (e::es) X.env=(false,eval e X.env)::starEach es X.env:=by rfl) (b:(backTo pos (starEach es X.env)).any (·.1)=false:=by rfl)
  (G:eval (.Call (.Attribute o m apos) (e::es) [] pos) X.env=(do
   let ov <- eval o X.env
   standAt apos.atName
   let (f,first) <- holding [ov] (getMethod ov m pl)
   callWith pos f first (backTo pos (starEach (e::es) X.env)) (backToKw pos (keywordEach [] X.env))):=by rfl) :
  PE X (.Call (.Attribute o m apos) (e::es) [] pos) (qdQ C m sp dvs E ta t):=by
 intro pins s σ H Q I h;refine xy (pl:=pl) (thn (B pins s σ H _ I h) fun u N ⟨x,n,g,M,a,dx,fs,ex,p,l,q⟩=>?_) G;subst ex;obtain rfl:u=Value.ref a:=M;refine qaI g p c j l ?_;refine Y9 (first:=[.ref a]) (h₀:=X.base) I.ok.mod.kin j.kp (thn (v pos pins N σ n _ g q) fun us P ⟨vs,O,i,r,L⟩=>⟨i.kIn,?_⟩) d b;exact qc9 (us:=.ref a::us) (vs:=.ref a::vs) F D y z J i (.cons rfl r) L
theorem pe_meth0 (j:PE X o ta) (c:Cls X.K C) (d:Meth X.K C m f) (F:FnOk X.prog X.w X.K X.mg X.base CX k f fd ps sp) (n:Room k X.A) (g:Binds X.K fd ps ds) (i:Vals dvs ds) (r:zJ CX X E)
  (p:eval (.Call (.Attribute o m apos) [] [] pos) X.env=(do
   let ov <- eval o X.env
   standAt apos.atName
   let (f,first) <- holding [ov] (getMethod ov m pl)
   callWith pos f first (backTo pos (starEach [] X.env)) (backToKw pos (keywordEach [] X.env))):=by rfl) :
  PE X (.Call (.Attribute o m apos) [] [] pos) (qdQ C m sp dvs E ta qfZ):=by
 intro pins s σ H Q I h;refine xy (pl:=pl) (thn (j pins s σ H _ I h) fun u y ⟨x,v,b,t,a,dx,fs,ex,e,l,q⟩=>?_) p;subst ex;obtain rfl:u=Value.ref a:=t;refine qaI b e c d l ?_;exact PySem.W.callWith_K0 (first:=[.ref a]) b.kIn d.kp (qc9 (us:=[.ref a]) (vs:=[.ref a]) F n g i r b (.cons rfl .nil) q)
structure Mk (K:yg) (C f:Addr):Prop where
 makes:PySem.W.makesIn K C=true
 init:PySem.W.findIn K (.ref C) "__init__"=some (some (.ref f))
 fn:PySem.W.isFn K (.ref f)=true
 kp:PySem.W.keepIn K (.ref C)=true
theorem run_make {Q:VK} (M:Mk X.K C f) (F:FnOk X.prog X.w X.K X.mg X.base CX k f fd ps sp) (n:Room (k+1) X.A) (l:Binds X.K fd ps ds) (m:Vals dvs ds)
  (o:zJ CX X E) (I:Inv X pins σ H s) (r:Vals vs us)
  (h:∀ x dx,H x=none->H dx=none->dx≠x->sp (.ref x::(vs++dvs)) (upd (upd H dx (.own x)) x (.ins C dx [])) (fun v g=>v=.non/\Q (.ref x) g) E) :
  wpAny (model X.prog X.w) X.A (call (.ref C) us) (EP X pins σ Q) X.xe s:=by
 have c:=h (s.heap.objs.size+1) s.heap.objs.size (I.hok.fresh (Xo _)) (I.hok.fresh (yh _)) (yI (X7 _));have b:=Inv.made (C:=C) I;have d:Vals (V.ref (s.heap.objs.size+1)::(vs++dvs)) (Value.ref (s.heap.objs.size+1)::(us++ds)):=.cons rfl (r.append m)
 have hl:(Value.ref (s.heap.objs.size+1)::us++ds).length=ps.length:=by
  have e:=d.length;rw [F.len _ _ _ _ c] at e;exact e.symm
 refine xW (make_map (f:=f) I.kIn M.makes M.init (Yk.mp M.fn) (XR (F.run _ X.stack _ _ ⟨Value.ref (s.heap.objs.size+1)::us,[]⟩ (Value.ref (s.heap.objs.size+1)::(us++ds)) _ _ E (n.make C us [])
  (b.env0.make C us []) (l _ (Value.ref (s.heap.objs.size+1)::us) b.kIn hl) d c) fun r s' a=>?_))
 cases r with
 | error e=>exact o pins σ _ _ e s' b a
 | ok fl =>
  cases fl with
  | ret u =>
   obtain ⟨v,H',i,q,j,p⟩:=b.after a;subst j;exact ⟨q,⟨V.ref (s.heap.objs.size+1),H',i,rfl,p⟩⟩
  | next=>exact False.elim a
  | brk=>exact False.elim a
  | cont=>exact False.elim a
theorem pe_make (M:Mk X.K C f) (F:FnOk X.prog X.w X.K X.mg X.base CX k f fd ps sp) (n:Room (k+1) X.A) (l:Gl X x) (m:X.mg x=some (.ref C)) (g:Binds X.K fd ps ds) (i:Vals dvs ds) (o:zJ CX X E)
  (d:PA X (e::es) t) (a:(x==("__debug__":Str))=false:=by decide) (j:starEach (e::es) X.env=(false,eval e X.env)::starEach es X.env:=by rfl) (b:(backTo pos (starEach es X.env)).any (·.1)=false:=by rfl) :
  PE X (.Call (.Name x p) (e::es) [] pos) (qfd C sp dvs E t):=by
 intro pins s σ H Q I h;refine xw (zH I l m ?_ a);refine Y9 (h₀:=X.base) I.ok.mod.kin M.kp (thn (d pos pins s σ H _ I h) fun us v ⟨vs,u,c,r,q⟩=>⟨c.kIn,?_⟩) j b;exact run_make M F n g i o c r q
end
section
variable {X:Cx} {CX:CXT} {k:Nat} {f C:Addr} {fd:FuncData} {ps ks:List Str} {sp:Sp} {E:XK} {x m:Str} {p pos apos kpos:Pos} {e o:Expr} {es:List Expr} {kws:List Keyword} {te ta:TE} {t tk:TA} {nm:Option Str}
structure KBinds (K:yg) (fd:FuncData) (ps ks:List Str) (g:List Value->List Value->List Value) (gV:List V->List V->List V):Prop where
 to:∀ (s:Shared) (us ws:List Value),K.In s.heap->(g us ws).length=ps.length->BindsTo s fd ⟨us,ks.zip ws⟩ (ps.zip (g us ws))
 rel:∀ {vs:List V} {us:List Value} {zs:List V} {ws:List Value},Vals vs us->Vals zs ws->Vals (gV vs zs) (g us ws)
variable {g:List Value->List Value->List Value} {gV:List V->List V->List V}
end
structure FnScope (N P:List Str) (sc:Scope):Prop where
 kind:sc.kind=.function
 co:sc.isCoroutine=false
 gen:sc.isGenerator=false
 nd:N.Nodup
 pre:N.take P.length=P
 par:∀ x∈P,sc.names.lookup x=some .local\/sc.names.lookup x=some .cell
 nofree:∀ y∈sc.names,y.2≠.free
theorem fS {P:List Str} (a:sc.kind=.function:=by rfl) (b:sc.isCoroutine=false:=by rfl) (c:sc.isGenerator=false:=by rfl) (d:N.Nodup:=by decide +kernel) (e:N.take P.length=P:=by rfl) (f:∀ x∈P,sc.names.lookup x=some .local\/sc.names.lookup x=some .cell:=by decide +kernel) (g:∀ y∈sc.names,y.2≠.free:=by decide +kernel):FnScope N P sc:=⟨a,b,c,d,e,f,g⟩
theorem qch:∀ {binds:List (Str×Value)} {m:Str->Option Value},(∀ v,(x,v)∉binds)->bindL kindOf binds m x=m x
 | [],_,_=>rfl
 | (n,v)::r,m,h=>by
  unfold bindL;rw [qch fun w hw=>h w (yz _ hw)];split
  ·have:x≠n:=by rintro rfl;exact h v yN
   simp [this]
  ·rfl
theorem qci:∀ {binds:List (Str×Value)} {m:Str->Option Value},(∀ v,(x,v)∉binds)->bindC kindOf binds m x=m x
 | [],_,_=>rfl
 | (n,v)::r,m,h=>by
  unfold bindC;rw [qci fun w hw=>h w (yz _ hw)];split
  ·rfl
  ·have:x≠n:=by rintro rfl;exact h v yN
   simp [this]
theorem qcj {v:Value}:∀ {P:List Str} {vs:List Value} {i:Nat} {m:Str->Option Value},P.Nodup->P[i]?=some x->vs[i]?=some v->kindOf x=some .local ->
  bindL kindOf (P.zip vs) m x=some v
 | [],_,_,_,_,h,_,_=>by simp at h
 | _::_,[],_,_,_,_,h,_=>by simp at h
 | p::P,w::vs,0,m,nd,h1,h2,hk=>by
  simp at h1 h2;subst h1;subst h2;show bindL kindOf ((p,w)::P.zip vs) m p=_;unfold bindL;rw [qch fun v hv=>(yo.mp nd).1 (k8 hv).1,yF hk];simp
 | p::P,w::vs,i+1,m,nd,h1,h2,hk=>by
  show bindL kindOf ((p,w)::P.zip vs) m x=_;unfold bindL;exact qcj (i:=i) (yo.mp nd).2 (by simpa using h1) (by simpa using h2) hk
theorem qck {v:Value}:∀ {P:List Str} {vs:List Value} {i:Nat} {m:Str->Option Value},P.Nodup->P[i]?=some x->vs[i]?=some v->kindOf x≠some .local ->
  bindC kindOf (P.zip vs) m x=some v
 | [],_,_,_,_,h,_,_=>by simp at h
 | _::_,[],_,_,_,_,h,_=>by simp at h
 | p::P,w::vs,0,m,nd,h1,h2,hk=>by
  simp at h1 h2;subst h1;subst h2;show bindC kindOf ((p,w)::P.zip vs) m p=_;unfold bindC;rw [qci fun v hv=>(yo.mp nd).1 (k8 hv).1,yy hk];simp
 | p::P,w::vs,i+1,m,nd,h1,h2,hk=>by
  show bindC kindOf ((p,w)::P.zip vs) m x=_;unfold bindC;exact qck (i:=i) (yo.mp nd).2 (by simpa using h1) (by simpa using h2) hk
noncomputable def start (N:List Str) (vs:List V):St:=vs.map some++List.replicate (N.length-vs.length) none
noncomputable def qeK (CX:CXT) (P:Program) (w:World) (K:yg) (mg:Str->Option Value) (base:Heap) (N:List Str) (qual:Str) (scope:Scope) (f:Addr) (b:Value) (A:Around) (outer:List Env) (s:Shared) (H:Hp) (E:XK):Cx where
 prog:=P
 w:=w
 K:=K
 mg:=mg
 base:=base
 A:=A.deeper (envOfC qual scope s.heap.objs.size f b)
 N:=N
 s₀:=s
 H₀:=H
 env:=envOfC qual scope s.heap.objs.size f b
 outer:=outer
 stack:=envOfC qual scope s.heap.objs.size f b::outer
 ex:=[]
 calm:=true
 fn:=fun _=>true
 pn:=[]
 xe:=fun e s'=>wpAny (model P w) (A.deeper (envOfC qual scope s.heap.objs.size f b)) (leaving (envOfC qual scope s.heap.objs.size f b) e) (fun _ a=>CX outer H s E e a) (fun c a=>CX outer H s E c a) s'
theorem qda (h:sc.names.lookup x=some .cell):∃ c,(cellsFrom n sc.names []).lookup x=some c:=by
 have q:=PySem.W.cellsFrom_some sc.names n [] (.inl h);exact YV.mp q
theorem inv_start {K:yg} {f:Addr} {o:Value} {D:Shared} {E:XK}
  (S:FnScope N ps scope) (G:A.handled=none) (g:Env0 P w K mg base A outer s H) (hl:vs.length=ps.length) (r:Vals vs us)
  (x:InCallC s s.heap.objs.size (bindL (envOfC qual scope s.heap.objs.size f o).kindOf (ps.zip us) fun _=>none) (cellsFrom (s.heap.objs.size+1) scope.names []) (bindC (envOfC qual scope s.heap.objs.size f o).kindOf (ps.zip us) fun _=>none) D) :
  Inv (qeK CX P w K mg base N qual scope f o A outer s H E) [] (start N vs) H D:=by
 have I:ps.length<=N.length:=by have:=congrArg List.length S.pre;rw [yP] at this;omega
 obtain ⟨h1,tk,rfl,B⟩:=x.done;have j:∀ b:Addr,b∉(qeK CX P w K mg base N qual scope f o A outer s H E).ex:=fun b z=>absurd (show b∈([]:List Addr) from z) (by simp);refine ⟨⟨g.mod,S.kind,rfl,rfl,yh _,fun y z c h1 d=>?_,fun y hy=>?_,fun y c _ h=>?_,fun _=>G,Around.frames_deeper g.frames,.inr ⟨rfl,rfl⟩,fun b z=>absurd z (j b),g.bs,g.bsz,fun b _ _=>j b,fun b z=>absurd z (j b),g.funs,g.frf⟩,
  rfl,g.bare,Un.kept B,⟨_,x.toInCall.ns,fun i y v h1 d L=>?_⟩,fun y c h=>⟨_,x.cell y c h⟩,g.hok.fresh (yh _),fun y c h=>?_,fun p l=>absurd (show p∈([]:List (Addr×Obj)) from l) (by simp),g.hok.kept B,?_⟩
 ·exact name_of_addr x.apart (xM h1) (xM d)
 ·have hy:scope.names.lookup y=some .cell\/scope.names.lookup y=some .free:=hy;rcases hy with hy | hy
  ·exact qda hy
  ·exact absurd rfl (S.nofree _ (xM hy))
 ·exact Yc (x.above y c (xM h))
 ·have t:i<vs.length:=by
   unfold start at d;by_cases t:i<vs.length
   ·exact t
   ·rw [yJ (by simpa using t)] at d;rw [xO] at d;split at d<;>cases d
  have F:vs[i]?=some v:=by
   unfold start at d;rw [yZ (by simpa using t),yd] at d
   cases e:vs[i]? with
   | none=>rw [e] at d;cases d
   | some a=>rw [e] at d;cases d;rfl
  obtain ⟨u,C,J⟩:=r.get F
  have l:ps[i]?=some y:=by
   rw [<- S.pre,Xx (by omega)];exact h1
  have m:ps.Nodup:=by rw [<- S.pre];exact S.nd.sublist (XS _ _)
  refine ⟨u,J,?_⟩;rcases S.par y (ye l) with k | k
  ·exact .inl ⟨k,qcj m l C k⟩
  ·obtain ⟨c,e⟩:=qda (n:=s.heap.objs.size+1) k;refine .inr ⟨.inl k,c,e,?_⟩;have q:=x.cell y c e;rw [qck m l C (by show scope.names.lookup y≠_;rw [k];decide)] at q;exact q
 ·exact g.hok.fresh (Yc (x.above y c (xM h)))
 ·unfold start;show _=N.length;rw [yt,ya,YN];omega
theorem qfG {K:yg} {k:Nat} {f:Addr} {name:Str} {c:Arguments} {O kV j R a ct oc:Value} {M od:Option Addr}
  {F:Array (Option Value)} {sp:Sp} (lk:K.lookup f=some ⟨oc,od,.func (PySem.W.fnOf name qual c body scope O kV j R M a ct),F⟩) (B:PySem.W.codeIn K a qual=true) (S:FnScope N ps scope)
  (z:∀ vs H Q E,sp vs H Q E->vs.length=ps.length)
  (g:∀ (A:Around) (outer:List Env) (s:Shared) (H:Hp) (vs:List V) (Q:VK) (E:XK),Room k (A.deeper (envOfC qual scope s.heap.objs.size f a))->sp vs H Q E ->
   ∃ t,PSs (qeK CX P w K mg base N qual scope f a A outer s H E) body t/\t { nx:=fun _ H'=>Q .non H',rt:=Q } (start N vs) H) :
  FnOk P w K mg base CX (k+1) f (PySem.W.fnOf name qual c body scope O kV j R M a ct) ps sp:=by
 refine ⟨z,fun A outer s H args us vs Q E C l X r p=>?_⟩;have hl:=z _ _ _ _ p;have L:K.In s.heap:=l.mod.kin.keeps fun b o e=>(l.bs b o e).1;have D:s.heap.NoLimit:=l.mod.nolimit.keeps fun b o e=>(l.bs b o e).1
 have h:∀ y∈ps.zip us,scope.names.lookup y.1=some .local\/(scope.names.lookup y.1=some .cell/\((cellsFrom (s.heap.objs.size+1) scope.names []).lookup y.1).isSome=true):=fun ⟨n,v⟩ hy=>by
  rcases S.par n (k8 hy).1 with q | q
  ·exact .inl q
  ·exact .inr ⟨q,PySem.W.cellsFrom_some _ _ _ (.inl q)⟩
 refine codeAny_call_function C.depth (L _ _ lk) rfl S.co S.gen rfl (PySem.W.codeRec_of L B) (X _ _ _ _ ?_);refine wpAny_newFunctionEnv_cells S.kind h fun env Y T x=>?_;subst Y;refine ⟨D.keeps x.toInCall.keep,codeAny_func ?_⟩;obtain ⟨t,ht,Z⟩:=g A outer s H vs Q E (C.deeper _) p;have I:Inv (qeK CX P w K mg base N qual scope f a A outer s H E) [] (start N vs) H T:=inv_start S C.hd l hl r x;refine YF (ht [] T (start N vs) H _ I Z) (fun U s' i=>?_) fun e s' i=>i
 have m:∀ {d:St} {H':Hp} {v:V} {u:Value},Inv (qeK CX P w K mg base N qual scope f a A outer s H E) [] d H' s'->RelV v u->Q v H'->CE outer P w H s Q u s':=
  fun {d H' v u} J G q=>⟨v,H',J.os,J.bare,J.base,J.hok,G,q⟩
 cases U with
 | ret u =>
  obtain ⟨v,d,H',J,G,q⟩:=i;exact m J G q
 | next =>
  obtain ⟨d,H',J,q⟩:=i;exact m (v:=V.non) (u:=Value.none) J rfl q
 | brk =>
  obtain ⟨_,_,_,q⟩:=i;exact False.elim q
 | cont =>
  obtain ⟨_,_,_,q⟩:=i;exact False.elim q
section
variable {X:Cx} {x:Str} {p pos:Pos} {e:Expr} {es:List Expr} {t:TA} {id T:String} {r:List V->Hp->VK->Prop}
def tCB (r:List V->Hp->VK->Prop) (t:TA):TE:=fun σ H Q=>t σ H fun vs a=>r vs a Q
theorem qu (hc:zm X (.builtin id) r) (i:Gl X x) (j:X.mg x=none) (hv:bootBuiltins x=some (.builtin id)) (f:PA X (e::es) t) (l:x≠"__name__":=by decide) (a:(x==("__debug__":Str))=false:=by decide)
  (g:starEach (e::es) X.env=(false,eval e X.env)::starEach es X.env:=by rfl) (b:(backTo pos (starEach es X.env)).any (·.1)=false:=by rfl):PE X (.Call (.Name x p) (e::es) [] pos) (tCB r t):=by
 intro pins s σ H Q I h;refine xw (zI I i j hv ?_ l a);exact PyProof.Rows.callWith_builtin1 (thn (f pos pins s σ H _ I h) fun us o ⟨vs,c,d,n,m⟩=>hc pins o σ c vs us Q d n m) g b
theorem j3 (hc:zm X (.type T) r) (i:Gl X x) (j:X.mg x=none) (hv:bootBuiltins x=some (.type T)) (f:PA X (e::es) t) (l:x≠"__name__":=by decide) (a:(x==("__debug__":Str))=false:=by decide)
  (g:starEach (e::es) X.env=(false,eval e X.env)::starEach es X.env:=by rfl) (b:(backTo pos (starEach es X.env)).any (·.1)=false:=by rfl):PE X (.Call (.Name x p) (e::es) [] pos) (tCB r t):=by
 intro pins s σ H Q I h;refine xw (zI I i j hv ?_ l a);exact Yu (thn (f pos pins s σ H _ I h) fun us o ⟨vs,c,d,n,m⟩=>hc pins o σ c vs us Q d n m) g b
end
end L2
namespace HT
open PySem PyProof.Rows
variable {hi lo:Option Int} {sl t:Addr} {vl vu:Value}
section
open PySem.SeqAt
open PySem.AutoSeq1 (wpAny_loadPart')
open PySem.MeetsSeq PySem.MeetsSeq2 PySem.MeetsSeq3
end
section
variable {prog:Program} {w:World} {A:Around} {E:Value->Shared->Prop} {s:Shared}
theorem cat_tup {b:Addr} {vs a:List Value} {Q:Value->Shared->Prop} (u:IsTup s.heap t vs.toArray) (r:IsTup s.heap b a.toArray) (hv:vs≠[])
  (h1:a=[]->Q (.ref t) s) (q:a≠[]->Q (.ref s.heap.objs.size) { s with heap:=s.heap.push { cls:=.type "tuple",data:=.seq (vs++a).toArray } })
  (hsz:vs.length+a.length<=sizeLine):wpAny (model prog w) A (binaryOp .Add (.ref t) (.ref b)) Q E s:=by
 obtain ⟨⟨cls,m,data,sl⟩,i,hc,n,o⟩:=id u;obtain ⟨⟨l,d,j,h⟩,c,f,p,g⟩:=id r;simp only at hc o f g;subst hc o f g;have e:vs.toArray++a.toArray=(vs++a).toArray:=by simp
 by_cases hw:a=[]
 ·exact concat_meets ⟨_,i,rfl⟩ ⟨_,c,rfl⟩ noFill_tuple_add seq_tuple_add PySem.F.slot_tuple_add PySem.F.entry_tuple_add (PySem.F.args_tuple_add_2 _ _)
   (tuple_addW1 t b vs.toArray a.toArray n p m d sl h (by simpa using hv) (by simp [hw])) ⟨i,c,h1 hw⟩
 ·refine concat_meets ⟨_,i,rfl⟩ ⟨_,c,rfl⟩ noFill_tuple_add seq_tuple_add PySem.F.slot_tuple_add PySem.F.entry_tuple_add (PySem.F.args_tuple_add_2 _ _)
   (tuple_addW2 t b vs.toArray a.toArray n p m d sl h (by simpa using hv) (by simpa using hw) (by rw [yx,yx];exact hsz)) ⟨i,c,?_⟩
  rw [e];exact q hw
noncomputable def sIx (n d:Nat):Option Int->Nat
 | none=>d
 | some v=>if v<0 then (v+(n:Int)).toNat else min v.toNat n
theorem sIx_none (n d:Nat):sIx n d none=d:=rfl
theorem sIx_nat (n d k:Nat):sIx n d (some (k:Int))=min k n:=by
 show (if (k:Int)<0 then ((k:Int)+(n:Int)).toNat else min (k:Int).toNat n)=min k n;rw [yy (by omega),yY]
theorem sIx_le (n d:Nat) (a:d<=n) (o:Option Int):sIx n d o<=n:=by
 cases o with
 | none=>exact a
 | some v =>
  show (if v<0 then (v+(n:Int)).toNat else min v.toNat n)<=n;by_cases hv:v<0
  ·rw [yF hv];omega
  ·rw [yy hv];exact kN _ _
theorem qdR (v:Int) (n d:Nat):(if v<0 then max (v+(n:Int)) 0 else min v (n:Int))=((sIx n d (some v):Nat):Int):=by
 show (if v<0 then max (v+(n:Int)) 0 else min v (n:Int))=(((if v<0 then (v+(n:Int)).toNat else min v.toNat n):Nat):Int);by_cases hv:v<0
 ·simp only [yF hv];omega
 ·simp only [yy hv];omega
theorem adjust_gen (lo hi:Option Int) (n:Nat):Builtin.Slice.sliceAdjust lo hi 1 (n:Int)=(((sIx n 0 lo:Nat):Int),((sIx n n hi:Nat):Int)):=by
 have h1:¬ ((1:Int)<0):=by omega
 unfold Builtin.Slice.sliceAdjust;simp only [h1,Xc];refine Xd ?_ ?_
 ·cases lo with
  | none=>rfl
  | some v=>exact qdR v n 0
 ·cases hi with
  | none=>rfl
  | some v=>exact qdR v n n
theorem places_gen (i j:Nat):Builtin.Slice.slicePlaces (i:Int) (j:Int) 1=j-i:=by
 unfold Builtin.Slice.slicePlaces;have h1:(1:Int)>0:=by omega
 simp only [h1,Xz,Int.ediv_one];split<;>omega
theorem qbE {v:Value} {o:Option Int} {Q:Option Int->Shared->Prop} (p:IsPart v o) (h:Q o s):wpAny (model prog w) A (Builtin.Slice.slicePartIndex v) Q E s:=by
 cases p with
 | none=>exact slicePart_none h
 | int i t=>exact slicePart_int h
theorem sliceApplied_gen {n:Nat} {Q:Int×Int×Nat->Shared->Prop} (d:s.heap.IsSliceOf sl vl vu .none) (pl:IsPart vl lo) (e:IsPart vu hi)
  (h:Q (((sIx n 0 lo:Nat):Int),1,sIx n n hi-sIx n 0 lo) s):wpAny (model prog w) A (Builtin.Slice.sliceApplied (.ref sl) (pure (n:Int))) Q E s:=by
 obtain ⟨f,b,c,a⟩:=id d;unfold Builtin.Slice.sliceApplied Builtin.Slice.sliceFields;refine yr (yr (Y7 b a (x:=vl) rfl (yr (Y7 b a (x:=vu) rfl (yr (Y7 b a (x:=.none) rfl (yw ?_)))))));refine yr (slicePart_none ?_);show wpAny _ _ (if ((1:Int)==0)=true then _ else _) _ _ s;rw [yy (by decide)];refine yr (qbE pl (yr (qbE e (yr (yw ?_)))));show wpAny _ _ (match Builtin.Slice.sliceAdjust lo hi 1 (n:Int) with | (lo,hi)=>pure (lo,(1:Int),Builtin.Slice.slicePlaces lo hi 1)) _ _ s;rw [adjust_gen lo hi n];show wpAny _ _ (pure (((sIx n 0 lo:Nat):Int),(1:Int),Builtin.Slice.slicePlaces ((sIx n 0 lo:Nat):Int) ((sIx n n hi:Nat):Int) 1)) _ _ s;rw [places_gen];exact yw h
theorem pick_gen (xs:Array Value) (i k:Nat):((List.range k).filterMap fun (m:Nat)=>xs[((i:Int)+(m:Int)*1).toNat]?).toArray=((xs.toList.drop i).take k).toArray:=by
 have e:(fun (m:Nat)=>xs[((i:Int)+(m:Int)*1).toNat]?)=fun m=>xs[i+m]?:=by
  funext m;have:((i:Int)+(m:Int)*1).toNat=i+m:=by omega
  rw [this]
 rw [e];have:=pick_run xs i k;rw [List.filterMap_map] at this;have a:((fun x=>xs[x]?) ∘ fun x=>i+x)=fun m=>xs[i+m]?:=rfl;rw [a] at this;rw [this]
theorem getItem_tuple_cut {a:Array Value} {Q:Value->Shared->Prop} (c:IsTup s.heap t a) (i:s.heap.IsSliceOf sl vl vu .none) (pl:IsPart vl lo) (n:IsPart vu hi)
  (hw:¬ (sIx a.size 0 lo=0/\sIx a.size a.size hi=a.size))
  (h:Q (.ref s.heap.objs.size) { s with heap:=s.heap.push { cls:=.type "tuple",data:=.seq ((a.toList.drop (sIx a.size 0 lo)).take (sIx a.size a.size hi-sIx a.size 0 lo)).toArray } })
  (hsz:a.size<=sizeLine):wpAny (model prog w) A (getItem (.ref t) (.ref sl)) Q E s:=by
 have b:sizeOk (.seq ((a.toList.drop (sIx a.size 0 lo)).take (sIx a.size a.size hi-sIx a.size 0 lo)).toArray):=by
  show ((a.toList.drop (sIx a.size 0 lo)).take (sIx a.size a.size hi-sIx a.size 0 lo)).toArray.size<=sizeLine;rw [yx,yP,kO,xo];omega
 have o:sIx a.size a.size hi<=a.size:=sIx_le _ _ (yh _) hi;obtain ⟨l,g,e,j⟩:=id i;have d:s.TypeIs (.ref sl) "slice":=⟨l,g,e⟩;unfold getItem
 try with_reducible refine Ys ?_
 first | refine yr (yw ?_) | skip
 refine yr (wpAny_sequenceKey c.typeIs (by decide) ?_);refine yr (XF (name:=Str.ofString "__getitem__") c.typeIs xL
  (X8 xL c.typeIs entry_tuple_getitem ?_ (args_tuple_getitem _ _)))
 show wpAny _ _ (Builtin.Tuple.tupleItemsOf (.ref t)>>=_) _ _ s;refine yr (tupleItemsOf_ c ?_);refine yr (wpAny_typeOf d ?_);rw [yF (by decide)];refine yr (sliceApplied_gen i pl n ?_)
 have f:¬ ((((sIx a.size 0 lo:Nat):Int)==0&&(1:Int)==1&&(sIx a.size a.size hi-sIx a.size 0 lo)==a.size)=true):=by
  intro q;rw [yX,yX] at q;have p:((sIx a.size 0 lo:Nat):Int)=0:=eq_of_beq q.1.1;have r:sIx a.size a.size hi-sIx a.size 0 lo=a.size:=eq_of_beq q.2;exact hw ⟨by omega,by omega⟩
 show wpAny _ _ (if (((sIx a.size 0 lo:Nat):Int)==0&&(1:Int)==1&&(sIx a.size a.size hi-sIx a.size 0 lo)==a.size)=true then _ else _) _ _ s;rw [yy f,pick_gen]
 first
  | exact yr (m:=Builtin.Tuple.tupleExact _) (xH (yw ⟨_,rfl,yw h⟩) b)
  | exact yr (m:=Builtin.Tuple.tupleExact _) (xH (yr (yw (yw ⟨_,rfl,yw h⟩))) b)
  | exact yr (yr (m:=Builtin.Tuple.tupleExact _) (xH (yw (yw ⟨_,rfl,yw h⟩)) b))
  | exact yr (yr (m:=Builtin.Tuple.tupleExact _) (xH (yw ⟨_,rfl,yw h⟩) b))
end
end HT
namespace L2
open PySem PySem.Spec PyProof.Rows
variable {A:Around} {H H':Hp} {P:Program} {X:Cx} {a p:Addr} {h':Heap} {i:Int} {its its' us:List Value} {j n t':Nat} {kvs:List (List Key×V)} {o:Option V} {pins:List (Addr×Obj)} {r:R2} {s:Shared} {u v:Value} {w:World} {x y:V} {xs:List V} {α:Type} {σ:St}
abbrev TO:=St->Hp->(Option Int->Hp->Prop)->Prop
def PO (X:Cx) (e:Option Expr) (t:TO):Prop:=
 ∀ (pins:List (Addr×Obj)) (s:Shared) (σ:St) (H:Hp) (Q:Option Int->Hp->Prop),Inv X pins σ H s->t σ H Q ->
  wpAny (model X.prog X.w) X.A (evalPart e X.env) (fun u s'=>∃ o H',Inv X pins σ H' s'/\IsPart u o/\Q o H') X.xe s
def qdS:TO:=fun _ H Q=>Q none H
def qfH (t:TE):TO:=fun σ H Q=>t σ H fun x a=>∃ i,x=.int i/\Q (some i) a
section
variable {X:Cx} {e:Expr} {te:TE} {lo hi:Option Expr} {tl th:TO} {pos p2:Pos}
theorem j4:PO X none qdS:=by
 intro pins s σ H Q I h;rw [evalPart_none];exact yw ⟨none,H,I,.none,h⟩
theorem jH (h:PE X e te):PO X (some e) (qfH te):=by
 intro pins s σ H Q I hw;rw [evalPart_some];refine thn (h pins s σ H _ I hw) fun u f ⟨x,a,b,d,c⟩=>?_;obtain ⟨i,rfl,q⟩:=c;obtain ⟨t,rfl⟩:=d;exact ⟨some i,a,b,.int i t,q⟩
def SlR (X:Cx) (r:V->Option Int->Option Int->Hp->VK->Prop):Prop:=
 ∀ (pins:List (Addr×Obj)) (s:Shared) (σ:St) (H:Hp) (x:V) (v b c:Value) (lo hi:Option Int) (a:Addr) (Q:VK),Inv X pins σ H s->RelV x v->s.heap.IsSliceOf a b c .none->IsPart b lo->IsPart c hi->r x lo hi H Q ->
  ∃ T id,typeLookup (.type T) "__getitem__"=pure (some (.builtin id))/\s.TypeIs v T/\wpAny (model X.prog X.w) X.A (getItem v (.ref a)) (EP X pins σ Q) X.xe s
def tSl (r:V->Option Int->Option Int->Hp->VK->Prop) (te:TE) (tl th:TO):TE:=fun σ H Q=>te σ H fun x a=>tl σ a fun l b=>th σ b fun u c=>r x l u c Q
theorem jA {r:V->Option Int->Option Int->Hp->VK->Prop} (z:SlR X r) (t:PE X e te) (hl:PO X lo tl) (C:PO X hi th):PE X (.Subscript e (.Slice lo hi none p2) pos) (tSl r te tl th):=by
 intro pins s σ H Q I h;refine Subscript_ (thn (t pins s σ H _ I h) fun v K ⟨x,g,j,J,E⟩=>?_);refine wpAny_Slice (thn (hl pins K σ g _ j E) fun c L ⟨l,i,m,pl,F⟩=>thn (C pins L σ i _ m F) fun d a ⟨u,f,n,D,G⟩=>?_);rw [evalPart_none];refine yw ?_;have o:Inv X pins σ f { a with heap:=a.heap.push { cls:=.type "slice",data:=.fields #[c,d,.none] } }:=n.kept (t':=a.toks) fun b M q=>yu _ q;obtain ⟨T,id,p,B,y⟩:=z pins { a with heap:=a.heap.push { cls:=.type "slice",data:=.fields #[c,d,.none] } } σ f x v c d l u a.heap.objs.size Q o J (Heap.IsSliceOf.new ..) pl D G;show wpAny (model X.prog X.w) X.A (subscriptTail e (.Slice lo hi none p2) v (.ref a.heap.objs.size)) (EP X pins σ Q) X.xe { a with heap:=a.heap.push { cls:=.type "slice",data:=.fields #[c,d,.none] } };exact tail_any (ops:=[.ref a.heap.objs.size,v]) B p y (by with_unfolding_all rfl)
noncomputable def qcL (xs:List V) (lo hi:Option Int):List V:=(xs.drop (HT.sIx xs.length 0 lo)).take (HT.sIx xs.length xs.length hi-HT.sIx xs.length 0 lo)
theorem qbe (xs:List V) (lo hi:Option Int):(qcL xs lo hi).length<=xs.length:=by
 unfold qcL;rw [yP,kO];omega
def qgq (K:yg):V->Option Int->Option Int->Hp->VK->Prop:=fun x lo hi H Q=>∃ a xs,x=.ref a/\SqT K H a xs /\
 ¬ (HT.sIx xs.length 0 lo=0/\HT.sIx xs.length xs.length hi=xs.length)/\∀ p,H p=none->Q (.ref p) (upd H p (.tup (qcL xs lo hi)))
theorem sl_tup:SlR X (qgq X.K):=by
 intro pins s σ H x v m n lo hi l Q I i e pl g h;obtain ⟨a,xs,rfl,f,hw,q⟩:=h;cases i;obtain ⟨its,r,d,hz⟩:=I.tuple f;have c:its.toArray.size=xs.length:=by rw [yx];exact r.length.symm
 refine ⟨"tuple",_,xL.lookup,d.typeIs,?_⟩;refine HT.getItem_tuple_cut d e pl g (by rw [c];exact hw) ?_ (by rw [c];exact hz);rw [c];refine ⟨.ref s.heap.objs.size,_,I.laid (t':=s.toks) (o:=.tup (qcL xs lo hi)) (fun b j q=>yu _ q) (yh _) ?_,rfl,q _ (I.hok.fresh (yh _))⟩;exact ⟨yi (qbe xs lo hi) hz,_,(r.drop (HT.sIx xs.length 0 lo)).take (HT.sIx xs.length xs.length hi-HT.sIx xs.length 0 lo),IsTup.new _ _⟩
def qfI (K:yg):R2:=fun x y H Q=>∃ a b xs ys,x=.ref a/\y=.ref b/\SqT K H a xs/\SqT K H b ys/\xs≠[]/\xs.length+ys.length<=sizeLine /\
 (ys=[]->Q (.ref a) H)/\(ys≠[]->∀ p,H p=none->Q (.ref p) (upd H p (.tup (xs++ys))))
theorem Vals.nil_iff (r:Vals xs us):us=[]↔xs=[]:=by
 cases r with
 | nil=>simp
 | cons _ _=>simp
theorem op_catT:OpR X (binaryOp .Add) (qfI X.K):=by
 intro pins s σ H x y v u Q I n p h;obtain ⟨a,b,xs,ys,rfl,rfl,f,g,i,hz,l,m⟩:=h;cases n;cases p;obtain ⟨its,d,j,_⟩:=I.tuple f;obtain ⟨e,c,p2,_⟩:=I.tuple g;refine HT.cat_tup j p2 (fun z=>i (d.nil_iff.mp z)) (fun z=>⟨.ref a,H,I,rfl,l (c.nil_iff.mp z)⟩) (fun z=>?_) (by rw [<- d.length,<- c.length];exact hz);refine ⟨.ref s.heap.objs.size,_,I.laid (t':=s.toks) (o:=.tup (xs++ys)) (fun b r q=>yu _ q) (yh _) ?_,rfl,m (fun w=>z (c.nil_iff.mpr w)) _ (I.hok.fresh (yh _))⟩;exact ⟨by rw [yt];exact hz,_,d.append c,IsTup.new _ _⟩
end
noncomputable def ixN (n:Nat) (i:Int):Option Nat:=if 0<=i then (if i<n then some i.toNat else none) else if -(n:Int)<=i then some (i+n).toNat else none
noncomputable def atI {α:Type} (xs:List α) (i:Int):Option α:=(ixN xs.length i).bind fun j=>xs[j]?
theorem qdT (h:ixN n i=some j):seqIndex? i n=some j/\j<n/\-(n:Int)<=i/\i<n:=by
 unfold ixN at h;by_cases a:0<=i
 ·rw [yF a] at h;by_cases h1:i<n
  ·rw [yF h1] at h;have e:i.toNat=j:=ym h;exact ⟨by rw [seqIndex_of a h1,e],by omega,by omega,h1⟩
  ·rw [yy h1] at h;cases h
 ·rw [yy a] at h;by_cases h1:-(n:Int)<=i
  ·rw [yF h1] at h;have e:(i+n).toNat=j:=ym h;exact ⟨by rw [seqIndex_neg (by omega) h1,e],by omega,h1,by omega⟩
  ·rw [yy h1] at h;cases h
theorem qcM {xs:List α} {v:α} (h:atI xs i=some v):∃ j,seqIndex? i xs.length=some j/\xs[j]?=some v/\j<xs.length/\-(xs.length:Int)<=i/\i<xs.length:=by
 unfold atI at h
 cases e:ixN xs.length i with
 | none=>rw [e] at h;cases h
 | some j =>
  rw [e] at h;obtain ⟨h1,a,b,c⟩:=qdT e;exact ⟨j,h1,h,a,b,c⟩
theorem qo {xs:List α} {v:α} (h:xs[j]?=some v):atI xs (j:Int)=some v:=by
 have a:j<xs.length:=(yc.mp h).1
 have e:ixN xs.length (j:Int)=some j:=by
  unfold ixN;rw [yF (by omega),yF (by omega)];simp
 unfold atI;rw [e];exact h
theorem atI_last (xs:List α) (v:α):atI (xs++[v]) (-1)=some v:=by
 have hl:(xs++[v]).length=xs.length+1:=by simp
 have e:ixN (xs++[v]).length (-1)=some xs.length:=by
  unfold ixN;rw [hl,yy (by decide),yF (by omega)]
  congr 1
  omega
 unfold atI;rw [e];show (xs++[v])[xs.length]?=some v;simp
def PlainIx (b:Expr):Prop:=∀ o i,subscripted b false o i=operate [o,i] (getItem o i)
def IxR (X:Cx) (r:R2):Prop:=
 ∀ (b a:Expr) (pins:List (Addr×Obj)) (s:Shared) (σ:St) (H:Hp) (x y:V) (v u:Value) (Q:VK),Inv X pins σ H s->RelV x v->RelV y u->r x y H Q ->
  subscripted a false v u=operate [v,u] (getItem v u)->wpAny (model X.prog X.w) X.A (subscriptTail b a v u) (EP X pins σ Q) X.xe s
def MtR (X:Cx) (id:String) (r:V->List V->Hp->VK->Prop):Prop:=
 ∀ (pins:List (Addr×Obj)) (s:Shared) (σ:St) (H:Hp) (x:V) (xs:List V) (v:Value) (us:List Value) (Q:VK),Inv X pins σ H s->RelV x v->Vals xs us->r x xs H Q ->
  wpAny (model X.prog X.w) X.A (call (.builtin id) (v::us)) (EP X pins σ Q) X.xe s
section
variable {X:Cx} {a b:Expr} {ta tb:TE} {pos:Pos}
theorem IxR.or {d:R2} (h:IxR X r) (h':IxR X d):IxR X (fun x y H Q=>r x y H Q\/d x y H Q):=by
 intro b a pins s σ H x y v u Q I e f q c;rcases q with q | q
 ·exact h b a pins s σ H x y v u Q I e f q c
 ·exact h' b a pins s σ H x y v u Q I e f q c
theorem qr (g:IxR X r) (e:PE X a ta) (f:PE X b tb) (i:PlainIx b):PE X (.Subscript a b pos) (tOp r ta tb):=by
 intro pins s σ H Q I h;exact Subscript_ (qf7 e f I h fun v u m x y c d j l q=>g a b pins m σ c x y v u Q d j l q (i _ _))
def qgr (K:yg):R2:=fun x y H Q=>∃ p xs i v,x=.ref p/\y=.int i/\SqL K H p xs/\atI xs i=some v/\Q v H
def qgs (K:yg):R2:=fun x y H Q=>∃ p xs i v,x=.ref p/\y=.int i/\SqT K H p xs/\atI xs i=some v/\Q v H
def qgt:R2:=fun x y H Q=>∃ z i c,x=.str z/\y=.int i/\z.length<=sizeLine/\atI z.cps.toList i=some c/\Q (.str ⟨#[c]⟩) H
theorem ix_list:IxR X (qgr X.K):=by
 intro e d pins s σ H x y v u Q I C D h l;obtain ⟨p,xs,i,z,rfl,rfl,B,A,q⟩:=h;cases C;obtain ⟨t,rfl⟩:=D;obtain ⟨its,r,pl,hz⟩:=I.list B;obtain ⟨j,h1,m,E,n,o⟩:=qcM A;obtain ⟨w,f,c⟩:=r.get m;have hl:=r.length;have F:=qbD;have a:EP X pins σ Q w s:=⟨z,H,I,c,q⟩;by_cases g:0<=i
 ·have b:i.toNat=j:=by
   rw [seqIndex_of g o] at h1;exact ym h1
  exact item_listR pl.isList g (by omega) (by rw [b];simpa using f) a l
 ·have b:(i+(its.toArray.size:Int)).toNat=j:=by
   rw [seqIndex_neg (by omega) n] at h1;rw [yx,<- hl];exact ym h1
  exact subscriptTail_builtinR (x:=w) pl.isList.typeIs kG.lookup
   (wpAny_getItem_list_neg (Q:=fun r s'=>r=w/\EP X pins σ Q r s') pl.isList (by omega) (by rw [yx]<;>omega) (by omega) (by rw [b];simpa using f) ⟨rfl,a⟩) l
theorem ix_tup:IxR X (qgs X.K):=by
 intro d c pins s σ H x y v u Q I n o h m;obtain ⟨p,xs,i,z,rfl,rfl,l,g,q⟩:=h;cases n;obtain ⟨t,rfl⟩:=o;obtain ⟨its,r,pl,hz⟩:=I.tuple l;obtain ⟨j,h1,f,A,B,C⟩:=qcM g;obtain ⟨w,e,b⟩:=r.get f;have hl:=r.length;have D:=qbD;have a:EP X pins σ Q w s:=⟨z,H,I,b,q⟩;exact subscriptTail_builtinR (x:=w) pl.typeIs slot_tuple_getitem.lookup
  (getItem_tuple (j:=j) (Q:=fun r s'=>r=w/\EP X pins σ Q r s') pl (by omega) (by omega) (by rw [yx,<- hl];exact h1) (by simpa using e) ⟨rfl,a⟩) m
theorem ix_str:IxR X qgt:=by
 intro b a pins s σ H x y v u Q I o p h n;obtain ⟨z,i,c,rfl,rfl,hz,m,q⟩:=h;obtain ⟨t,rfl⟩:=o;obtain ⟨t',rfl⟩:=p;obtain ⟨j,h1,f,r,g,l⟩:=qcM m;have hl:z.cps.toList.length=z.length:=by simp [Str.length]
 rw [hl] at h1 g l;have w:=qbD
 exact tail_any (typeIs_str s z t) slot_str_getitem.lookup (getItem_str (c:=c) (by
  have d:decide (i < -(2 ^ 63:Int))=false:=yl (by omega);have e:decide (i ≥ 2 ^ 63)=false:=yl (by omega);rw [d,e,kK]) (by rw [h1];simpa using f) ⟨.str ⟨#[c]⟩,H,I.tok _,⟨_,rfl⟩,q⟩) n
def rIx (K:yg):R2:=fun x y H Q=>qgr K x y H Q\/qgs K x y H Q\/qgt x y H Q
theorem ix_seq:IxR X (rIx X.K):=ix_list.or (ix_tup.or ix_str)
theorem mapSeq_set (its:List Value) (n j:Nat) (u:Value):Obj.mapSeq (·.setIfInBounds j u) { cls:=.type "list",data:=.seq its.toArray n }={ cls:=.type "list",data:=.seq (its.set j u).toArray n }:=by
 simp [Obj.mapSeq]
theorem Inv.lst (I:Inv X pins σ H s) (h:H p=some (.lst xs)) :
  ∃ (its:List Value) (n:Nat),Vals xs its/\s.heap.get? p=some { cls:=.type "list",data:=.seq its.toArray n }/\xs.length<=sizeLine:=by
 obtain ⟨z,its,n,r,e⟩:=I.hok p _ h;exact ⟨its,n,r,e,z⟩
theorem Inv.lstUpd {ys:List V} {a:Nat} {f:Obj->Obj} (I:Inv X pins σ H s) (h:H p=some (.lst xs))
  (g:s.heap.get? p=some { cls:=.type "list",data:=.seq its.toArray n }) (c:f { cls:=.type "list",data:=.seq its.toArray n }={ cls:=.type "list",data:=.seq its'.toArray a }) (r:Vals ys its') (hz:ys.length<=sizeLine) (t:Nat) :
  Inv X pins σ (upd H p (.lst ys)) { s with heap:=s.heap.update p f,toks:=t }:=by
 have e:(s.heap.update p f).get? p=some { cls:=.type "list",data:=.seq its'.toArray a }:=by
  rw [YC f g (by rw [c]<;>rfl),c]
 refine I.write (x:=p) (e:=p) (by rw [h];trivial) (.inl rfl) (fun b u d q=>(YB _ _ (Yh d)).trans q) ⟨_,e⟩ ?_;exact ⟨hz,its',a,r,e⟩
def qfe:V->V->V->Hp->(Hp->Prop)->Prop:=fun o i v H Q=>∃ p xs k j,o=.ref p/\i=.int k/\H p=some (.lst xs)/\ixN xs.length k=some j/\Q (upd H p (.lst (xs.set j v)))
theorem set_list:qf6 X qfe:=by
 intro pins s σ H o i v B A u Q I w m x h;obtain ⟨p,xs,k,j,rfl,rfl,g,l,q⟩:=h;cases w;obtain ⟨t,rfl⟩:=m;obtain ⟨its,n,r,b,hz⟩:=I.lst g;obtain ⟨h1,y,e,f⟩:=qdT l;have hl:=r.length;have z:=qbD
 have c:Inv X pins σ (upd H p (.lst (xs.set j v))) { s with heap:=s.heap.update p (Obj.mapSeq (·.setIfInBounds j u)) }:=
  I.lstUpd g b (mapSeq_set its n j u) (r.set x j) (by rw [xD];exact hz) s.toks
 by_cases d:0<=k
 ·have a:k.toNat=j:=by
   rw [seqIndex_of d f] at h1;exact ym h1
  exact PySem.W.ki_setAt b d (by omega) (by rw [yx,<- hl];exact f) (by rw [a];exact ⟨_,c,q⟩)
 ·have a:(k+(its.toArray.size:Int)).toNat=j:=by
   rw [seqIndex_neg (by omega) e] at h1;rw [yx,<- hl];exact ym h1
  exact PySem.W.ki_setBack b (by omega) (by rw [yx,<- hl];exact e) (by omega) (by rw [a];exact ⟨_,c,q⟩)
theorem slice_bounds (lo a:Option Int) (n:Nat):(sliceBounds lo a none n).1=((HT.sIx n 0 lo:Nat):Int)/\(sliceBounds lo a none n).2.1=((HT.sIx n n a:Nat):Int)/\(sliceBounds lo a none n).2.2=1:=by
 refine ⟨?_,?_,rfl⟩
 ·cases lo with
  | none=>simp [sliceBounds,HT.sIx]
  | some i =>
   simp only [sliceBounds,HT.sIx,Option.getD_none,show (1:Int)>0 by decide,Xz];by_cases h:i<0
   ·simp only [h,Xz]<;>omega
   ·simp only [h,Xc]<;>omega
 ·cases a with
  | none=>simp [sliceBounds,HT.sIx]
  | some i =>
   simp only [sliceBounds,HT.sIx,Option.getD_none,show (1:Int)>0 by decide,Xz];by_cases h:i<0
   ·simp only [h,Xz]<;>omega
   ·simp only [h,Xc]<;>omega
theorem slicePick_cut (its:List Value) (lo a:Option Int):slicePick its.toArray lo a none=((its.drop (HT.sIx its.length 0 lo)).take (HT.sIx its.length its.length a-HT.sIx its.length 0 lo)).toArray:=by
 obtain ⟨h1,b,c⟩:=slice_bounds lo a its.toArray.size;unfold slicePick;rw [h1,b,c];simp only [sliceRange_one,pick_run,yx]<;>rfl
def qgu (K:yg):V->Option Int->Option Int->Hp->VK->Prop:=fun x lo b H Q=>∃ a xs,x=.ref a/\SqL K H a xs/\∀ p,H p=none->Q (.ref p) (upd H p (.lst (qcL xs lo b)))
theorem sl_list:SlR X (qgu X.K):=by
 intro pins s σ H x v n p lo d m Q I j f pl i h;obtain ⟨a,xs,rfl,g,q⟩:=h;cases j;obtain ⟨its,r,e,hz⟩:=I.list g;have c:=r.length;refine ⟨"list",_,kG.lookup,e.isList.typeIs,?_⟩;refine wpAny_getItem_list_slice e.isList f pl i .none (by simp) ?_ (by rw [yx]<;>omega);rw [slicePick_cut,<- c];refine ⟨.ref s.heap.objs.size,_,I.laid (t':=s.toks) (o:=.lst (qcL xs lo d)) (fun b l q=>yu _ q) (yh _) ?_,rfl,q _ (I.hok.fresh (yh _))⟩;exact ⟨yi (qbe xs lo d) hz,_,0,(r.drop (HT.sIx xs.length 0 lo)).take (HT.sIx xs.length xs.length d-HT.sIx xs.length 0 lo),yV _ rfl⟩
noncomputable def j5:V->Bool
 | .non=>true
 | .bl _=>true
 | .int _=>true
 | .str _=>true
 | _=>false
noncomputable def eqV:V->V->Bool
 | .non,.non=>true
 | .bl a,.bl b=>a==b
 | .bl a,.int b=>(if a then 1 else 0)==b
 | .int a,.bl b=>a==(if b then 1 else 0)
 | .int a,.int b=>a==b
 | .str a,.str b=>a==b
 | _,_=>false
theorem qdU (e:RelV y u) (c:RelV x v) (f:j5 y=true) (d:j5 x=true):SeqAt.EqAt A s u v (eqV y x):=by
 cases y with
 | non =>
  cases e
  cases x with
  | non=>cases c;exact km _
  | bl b=>cases c;exact SeqAt.EqAt.none_bool b
  | int b=>obtain ⟨t,rfl⟩:=c;exact SeqAt.EqAt.none_int b t
  | str b=>obtain ⟨t,rfl⟩:=c;exact SeqAt.EqAt.none_str b t
  | _=>exact absurd (show false=true from d) Yn
 | bl a =>
  cases e
  cases x with
  | non=>cases c;exact SeqAt.EqAt.bool_none a
  | bl b=>cases c;exact SeqAt.EqAt.bool_bool a b
  | int b=>obtain ⟨t,rfl⟩:=c;exact SeqAt.EqAt.bool_int a b t
  | str b=>obtain ⟨t,rfl⟩:=c;exact SeqAt.EqAt.bool_str a b t
  | _=>exact absurd (show false=true from d) Yn
 | int a =>
  obtain ⟨t',rfl⟩:=e
  cases x with
  | non=>cases c;exact SeqAt.EqAt.int_none a t'
  | bl b=>cases c;exact SeqAt.EqAt.int_bool a t' b
  | int b=>obtain ⟨t,rfl⟩:=c;exact SeqAt.EqAt.int_int a t' b t
  | str b=>obtain ⟨t,rfl⟩:=c;exact SeqAt.EqAt.int_str a t' b t
  | _=>exact absurd (show false=true from d) Yn
 | str a =>
  obtain ⟨t',rfl⟩:=e
  cases x with
  | non=>cases c;exact SeqAt.EqAt.str_none a t'
  | bl b=>cases c;exact SeqAt.EqAt.str_bool a t' b
  | int b=>obtain ⟨t,rfl⟩:=c;exact SeqAt.EqAt.str_int a t' b t
  | str b=>obtain ⟨t,rfl⟩:=c;exact SeqAt.EqAt.str_str a t' b t
  | _=>exact absurd (show false=true from d) Yn
 | _=>exact absurd (show false=true from f) Yn
noncomputable def eqU (x:V) (u:Value):Bool:=match u with
 | .none=>eqV .non x
 | .bool b=>eqV (.bl b) x
 | .int i _=>eqV (.int i) x
 | .str z _=>eqV (.str z) x
 | _=>false
theorem qdV (r:RelV y u) (f:j5 y=true):eqU x u=eqV y x:=by
 cases y with
 | non=>cases r;rfl
 | bl b=>cases r;rfl
 | int i=>obtain ⟨t,rfl⟩:=r;rfl
 | str z=>obtain ⟨t,rfl⟩:=r;rfl
 | _=>exact absurd (show false=true from f) Yn
theorem qbf:∀ {xs:List V} {us:List Value},Vals xs us->xs.all j5=true->us.any (eqU x)=xs.any fun y=>eqV y x
 | _,_,.nil,_=>rfl
 | y::xs,u::us,.cons r t,f=>by
  rw [kc,yX] at f;rw [Xi,Xi,qdV r f.1,qbf t f.2]
theorem zV (b:RelV x v) (a:j5 x=true):∀ {xs:List V} {us:List Value},Vals xs us->xs.all j5=true->∀ u∈us,SeqAt.EqAt A s u v (eqU x u)
 | _,_,.nil,_=>fun u hu=>by cases hu
 | y::xs,u::us,.cons r t,f=>fun c hu=>by
  rw [kc,yX] at f;rcases yv.mp hu with rfl | hu
  ·rw [qdV r f.1];exact qdU r b f.1 a
  ·exact zV b a t f.2 c hu
noncomputable def inV (x:V) (xs:List V):Bool:=xs.any fun y=>eqV y x
def rIn (K:yg) (a:Bool):R2:=fun x y H Q=>∃ p xs,y=.ref p/\(SqL K H p xs\/SqT K H p xs)/\j5 x=true/\xs.all j5=true/\Q (.bl (if a then !inV x xs else inV x xs)) H
theorem op_in_seq:OpR X (compareOp .In) (rIn X.K false):=by
 intro pins s σ H x y v u Q I b c h;obtain ⟨p,xs,rfl,hq,a,fs,q⟩:=h;cases c;rcases hq with hq | hq
 ·obtain ⟨its,r,pl,hz⟩:=I.list hq;refine SeqAt.in_listAt (eqU x) pl.isList (fun w hw=>zV b a r fs w (by simpa using hw)) ⟨.bl _,H,I,rfl,?_⟩;rw [show its.toArray.any (eqU x)=its.any (eqU x) by simp,qbf r fs];exact q
 ·obtain ⟨its,r,pl,hz⟩:=I.tuple hq;refine SeqAt.in_tupleAt (eqU x) pl (fun w hw=>zV b a r fs w (by simpa using hw)) ⟨.bl _,H,I,rfl,?_⟩;rw [show its.toArray.any (eqU x)=its.any (eqU x) by simp,qbf r fs];exact q
theorem op_notIn_seq:OpR X (compareOp .NotIn) (rIn X.K true):=by
 intro pins s σ H x y v u Q I b c h;obtain ⟨p,xs,rfl,hq,a,fs,q⟩:=h;cases c;rcases hq with hq | hq
 ·obtain ⟨its,r,pl,hz⟩:=I.list hq;refine SeqAt.notIn_listAt (eqU x) pl.isList (fun w hw=>zV b a r fs w (by simpa using hw)) ⟨.bl _,H,I,rfl,?_⟩;rw [show its.toArray.any (eqU x)=its.any (eqU x) by simp,qbf r fs];exact q
 ·obtain ⟨its,r,pl,hz⟩:=I.tuple hq;refine SeqAt.notIn_tupleAt (eqU x) pl (fun w hw=>zV b a r fs w (by simpa using hw)) ⟨.bl _,H,I,rfl,?_⟩;rw [show its.toArray.any (eqU x)=its.any (eqU x) by simp,qbf r fs];exact q
theorem call_len_seq:zm X (.builtin "len") (fun xs H Q=>∃ p ys,xs=[.ref p]/\(SqL X.K H p ys\/SqT X.K H p ys)/\Q (.int ys.length) H):=by
 intro pins s σ H xs us Q I r h;obtain ⟨p,ys,rfl,hq,q⟩:=h;obtain ⟨u,rfl,c⟩:=qaO r;cases c;have d:=qbD;rcases hq with hq | hq
 ·obtain ⟨its,b,pl,hz⟩:=I.list hq;have a:=b.length;exact Calls.call_len_list pl.isList (by simp only [yx]<;>omega) ⟨.int ys.length,H,I.tok _,⟨s.toks+1,by rw [yx,a]⟩,q⟩
 ·obtain ⟨its,b,pl,hz⟩:=I.tuple hq;have a:=b.length;exact len_tuple pl (by simp only [yx]<;>omega) ⟨.int ys.length,H,I.tok _,⟨s.toks+1,by rw [yx,a]⟩,q⟩
theorem call_len_str:zm X (.builtin "len") (fun xs H Q=>∃ z,xs=[.str z]/\z.length<=sizeLine/\Q (.int z.length) H):=by
 intro pins s σ H xs us Q I r h;obtain ⟨z,rfl,hz,q⟩:=h;obtain ⟨u,rfl,t,rfl⟩:=qaO r;have a:=qbD;exact len_str (by omega) ⟨.int z.length,H,I.tok _,⟨_,rfl⟩,q⟩
theorem call_list_of:zm X (.type "list") (fun xs H Q=>∃ p ys,xs=[.ref p]/\(SqL X.K H p ys\/SqT X.K H p ys)/\∀ l,H l=none->Q (.ref l) (upd H l (.lst ys))):=by
 intro pins s σ H xs us Q I r h;obtain ⟨p,ys,rfl,hq,q⟩:=h;obtain ⟨u,rfl,t⟩:=qaO r;cases t;have d:∀ (its:List Value),Vals ys its->ys.length<=sizeLine->∀ (h':Heap) (a:Nat),(∀ b m,s.heap.get? b=some m->h'.get? b=some m) ->
   h'.get? s.heap.objs.size=some { cls:=.type "list",dict:=none,data:=.seq its.toArray a,slots:=#[] }->EP X pins σ Q (.ref s.heap.objs.size) { s with heap:=h' }:=fun its c hz h' a g e =>
  ⟨.ref s.heap.objs.size,_,I.laid (t':=s.toks) g (yh _) (show ObjOk X.prog X.w _ h' _ (.lst ys) from ⟨hz,its,a,c,e⟩),rfl,q _ (I.hok.fresh (yh _))⟩
 rcases hq with hq | hq
 ·obtain ⟨its,c,pl,hz⟩:=I.list hq;have f:=c.length;obtain ⟨o,j,hc,n,i⟩:=pl.isList;exact call_list_seq p (.inl rfl) j hc i (fun h' a g e=>d its c hz h' a g e) (by simp only [yx]<;>omega)
 ·obtain ⟨its,c,pl,hz⟩:=I.tuple hq;have f:=c.length;obtain ⟨o,j,hc,n,i⟩:=pl;exact call_list_seq p (.inr rfl) j hc i (fun h' a g e=>d its c hz h' a g e) (by simp only [yx]<;>omega)
theorem call_tuple_of:zm X (.type "tuple") (fun xs H Q=>∃ p ys,xs=[.ref p]/\((SqL X.K H p ys/\∀ l,H l=none->Q (.ref l) (upd H l (.tup ys)))\/(SqT X.K H p ys/\Q (.ref p) H))):=by
 intro pins s σ H xs us Q I r h;obtain ⟨p,ys,rfl,h⟩:=h;obtain ⟨u,rfl,j⟩:=qaO r;cases j;rcases h with ⟨a,q⟩ | ⟨a,q⟩
 ·obtain ⟨its,c,pl,hz⟩:=I.list a;have f:=c.length;refine call_tuple_list pl.isList (fun h' i=>?_) (by simp only [yx]<;>omega);have d:Inv X pins σ H { s with heap:=h' }:=I.kept (t':=s.toks) i
  have g:Inv X pins σ (upd H h'.objs.size (.tup ys)) { s with heap:=h'.push { cls:=.type "tuple",data:=.seq its.toArray } }:=
   d.laid (t':=s.toks) (fun b o e=>yu _ e) (yh _) (show ObjOk X.prog X.w _ _ _ (.tup ys) from ⟨hz,its,c,IsTup.new _ _⟩)
  exact ⟨.ref h'.objs.size,_,g,rfl,q _ (d.hok.fresh (yh _))⟩
 ·obtain ⟨its,c,pl,hz⟩:=I.tuple a;exact call_tuple_same pl ⟨.ref p,H,I,rfl,q⟩
def tyV (K:yg) (T:String) (x:V) (H:Hp):Prop:=match x with
 | .str _=>T="str"
 | .int _=>T="int"
 | .ref p=>(T="list"/\∃ xs,SqL K H p xs)\/(T="tuple"/\∃ o,K.lookup p=some o/\o.cls=.type "tuple"/\o.dict=none) \/
   (T="dict"/\((∃ kvs,H p=some (.dK kvs))\/∃ kvs,H p=some (.dT kvs)))\/(T="set"/\∃ S n,H p=some (.set S n))
 | _=>False
theorem qeL {T:String} (I:Inv X pins σ H s) (r:RelV x v) (ty:tyV X.K T x H) :
  s.TypeIs v T/\∀ a,v=.ref a->∃ g,s.heap.get? a=some g/\g.dict=none:=by
 cases x with
 | str z =>
  obtain ⟨t,rfl⟩:=r;cases (show T="str" from ty);exact ⟨typeIs_str s z t,fun _ e=>nomatch e⟩
 | int i =>
  obtain ⟨t,rfl⟩:=r;cases (show T="int" from ty);exact ⟨typeIs_int s i t,fun _ e=>nomatch e⟩
 | ref p =>
  cases r;rcases ty with ⟨rfl,xs,h⟩ | ⟨rfl,o,b,hc,f⟩ | ⟨rfl,b⟩ | ⟨rfl,S,n,b⟩
  ·obtain ⟨its,_,pl,_⟩:=I.list h;refine ⟨pl.isList.typeIs,fun a e=>?_⟩;cases e;obtain ⟨o,n,e,c,f,_⟩:=pl;exact ⟨o,e,f⟩
  ·refine ⟨⟨o,I.kIn p o b,hc⟩,fun a e=>?_⟩;cases e;exact ⟨o,I.kIn _ o b,f⟩
  ·have z:∃ o,s.heap.get? p=some o/\o.ExactDict:=by
    rcases b with ⟨kvs,b⟩ | ⟨kvs,b⟩
    ·obtain ⟨_,_,_,_,o,_,_,e,ex,_⟩:=I.hok p _ b;exact ⟨o,e,ex⟩
    ·obtain ⟨_,_,_,_,o,_,_,e,ex,_⟩:=I.hok p _ b;exact ⟨o,e,ex⟩
   obtain ⟨o,e,ex⟩:=z;refine ⟨⟨o,e,ex.1⟩,fun a d=>?_⟩;cases d;exact ⟨o,e,ex.2.1⟩
  ·obtain ⟨o,_,_,_,e,ex,_⟩:=I.hok p _ b;refine ⟨⟨o,e,ex.1⟩,fun a d=>?_⟩;cases d;exact ⟨o,e,ex.2.1⟩
 | _=>exact False.elim ty
def qf9 (K:yg) (T:String) (r:V->List V->Hp->VK->Prop) (to:TE):TE:=fun σ H Q=>to σ H fun x a=>tyV K T x a/\r x [] a Q
def tBM (K:yg) (T:String) (r:V->List V->Hp->VK->Prop) (to:TE) (t:TA):TE:=fun σ H Q=>to σ H fun x a=>tyV K T x a/\t σ a fun xs b=>r x xs b Q
variable {o e:Expr} {es:List Expr} {to:TE} {t:TA} {name:Str} {apos cpos:Pos} {T id:String} {r:V->List V->Hp->VK->Prop}
theorem pe_bm0 (m:PlainAttrs T) (c:Slot T name id) (d:typeOf (.builtin id)=pure (.type "method_descriptor")) (j:MtR X id r) (l:PE X o to)
  (a:attributeBase o name X.env (eval o X.env)=eval o X.env:=by rfl) (b:(apos.endLine==cpos.line)=true:=by rfl):PE X (.Call (.Attribute o name apos) [] [] cpos) (qf9 X.K T r to):=by
 intro pins s σ H Q I h;refine wpAny_Call_method0_late a b (thn (l pins s σ H _ I h) fun v p ⟨x,g,e,f,ty,n⟩=>?_);obtain ⟨h1,i⟩:=qeL e f ty;exact ⟨T,id,m,c,d,h1,i,xX rfl (PySem.evalArgs_none (j pins p σ g x [] v [] Q e f .nil n))⟩
theorem pe_bm (A:PlainAttrs T) (f:Slot T name id) (g:typeOf (.builtin id)=pure (.type "method_descriptor")) (w:MtR X id r) (y:PE X o to) (u:PA X (e::es) t)
  (b:attributeBase o name X.env (eval o X.env)=eval o X.env:=by rfl)
  (d:((backTo cpos (starEach (e::es) X.env)).all (fun x=>!x.1)&&(backToKw cpos (keywordEach [] X.env)).all (fun x=>x.1.isSome)
   && decide ((e::es).length+([]:List Keyword).length+(if ([]:List Keyword).isEmpty then 0 else 1)<30))=true:=by rfl)
  (c:(apos.endLine==cpos.line)=true:=by rfl) (z:starEach (e::es) X.env=(false,eval e X.env)::starEach es X.env:=by rfl) (a:(backTo cpos (starEach es X.env)).any (·.1)=false:=by rfl) :
  PE X (.Call (.Attribute o name apos) (e::es) [] cpos) (tBM X.K T r to t):=by
 intro pins s σ H Q I h;refine wpAny_Call_method_late b d c rfl (thn (y pins s σ H _ I h) fun v E ⟨x,m,i,l,ty,B⟩=>?_);obtain ⟨h1,q⟩:=qeL i l ty;refine ⟨T,id,A,f,g,h1,q,?_⟩;have j:=u cpos pins E σ m _ i B;rw [z] at j ⊢;refine xX (by show (false||(backTo cpos (starEach es X.env)).any (·.1))=false;rw [a]<;>rfl) (kg ?_);exact thn j fun us F ⟨vs,n,p,D,C⟩=>w pins F σ n x vs v us Q p l D C
end
def MtM (X:Cx) (id:String) (r:V->List V->Hp->VK->Prop):Prop:=
 ∀ (pins:List (Addr×Obj)) (s:Shared) (σ:St) (H:Hp) (x:V) (xs:List V) (v:Value) (us:List Value) (Q:VK),Inv X pins σ H s->RelV x v->Vals xs us->r x xs H Q ->
  wpAny (model X.prog X.w) X.A (call (.builtin id) (v::us)) (EP X pins σ Q) X.xe s
theorem Vals.one:∀ {x:V} {us:List Value},Vals [x] us->∃ u,us=[u]/\RelV x u
 | _,_,.cons r .nil=>⟨_,rfl,r⟩
theorem Vals.eraseIdx:∀ {xs:List V} {us:List Value} (i:Nat),Vals xs us->Vals (xs.eraseIdx i) (us.eraseIdx i)
 | _,_,_,.nil=>.nil
 | _,_,0,.cons _ t=>t
 | _,_,i+1,.cons r t=>.cons r (Vals.eraseIdx i t)
theorem Vals.rep (h:Vals xs us):∀ k:Nat,Vals (List.replicate k xs).flatten (List.replicate k us).flatten
 | 0=>.nil
 | k+1=>by
  rw [xp,xp,Xl,Xl];exact Vals.append h (Vals.rep h k)
theorem qcl:∀ (l:List α) (i:Nat),(l.eraseIdx i).length<=l.length
 | [],_=>yh _
 | _::_,0=>Xo _
 | _::r,i+1=>Nat.succ_le_succ (qcl r i)
theorem qcm (its:List Value):∀ (k:Nat) (acc:List Value),
  List.foldl (fun b c=>b++c) acc.toArray (List.replicate k its.toArray)=(acc++(List.replicate k its).flatten).toArray
 | 0,acc=>by simp
 | k+1,acc=>by
  have e:acc.toArray++its.toArray=(acc++its).toArray:=by simp
  have a:(acc++its)++(List.replicate k its).flatten=acc++(List.replicate (k+1) its).flatten:=by
   rw [xp,Xl,Ym]
  rw [<- a,<- qcm its k (acc++its),<- e,xp,List.foldl_cons]
section
variable {X:Cx} {pins:List (Addr×Obj)} {σ:St} {H:Hp} {s:Shared} {l b:Addr} {xs ys zs:List V}
theorem Inv.lset {f:Array Value->Array Value} (I:Inv X pins σ H s) (a:H l=some (.lst xs))
  (e:s.heap.get? l=some { cls:=.type "list",data:=.seq its.toArray n }) (c:f its.toArray=its'.toArray) (hv:Vals ys its') (hz:ys.length<=sizeLine) :
  Inv X pins σ (upd H l (.lst ys)) { s with heap:=s.heap.update l (Obj.mapSeq f),toks:=t' }:=by
 have q:=PySem.IsL.update e f;rw [c] at q;refine I.write (x:=l) (e:=l) (by rw [a];exact trivial) (.inl rfl) (fun g u b d=>(YB s.heap (Obj.mapSeq f) (Yh b)).trans d) ⟨_,q⟩ ?_;exact ⟨hz,its',_,hv,q⟩
theorem Inv.lnew (I:Inv X pins σ H s) (hv:Vals ys its) (hz:ys.length<=sizeLine) :
  Inv X pins σ (upd H s.heap.objs.size (.lst ys)) { s with heap:=s.heap.push { cls:=.type "list",data:=.seq its.toArray },toks:=t' }:=
 I.laid (fun _ _ q=>yu _ q) (yh _) ⟨hz,its,0,hv,yV _ rfl⟩
theorem Inv.fresh (I:Inv X pins σ H s):H s.heap.objs.size=none:=I.hok.fresh (yh _)
theorem Inv.lstM (I:Inv X pins σ H s) (a:H l=some (.lst xs)):xs.length<=sizeLine/\∃ (its:List Value) (n:Nat),Vals xs its/\xs.length=its.length/\s.heap.get? l=some { cls:=.type "list",data:=.seq its.toArray n }:=by
 obtain ⟨z,its,n,r,e⟩:=I.hok l _ a;exact ⟨z,its,n,r,r.length,e⟩
theorem qdb (h:n<=sizeLine):Builtin.List.listTooLong n=false:=by
 unfold Builtin.List.listTooLong;exact yl (by omega)
end
section
variable {X:Cx}
def qdW:V->List V->Hp->VK->Prop:=fun x vs H Q=>∃ l xs y,x=.ref l/\vs=[y]/\H l=some (.lst xs)/\xs.length<sizeLine/\Q .non (upd H l (.lst (xs++[y])))
theorem mt_append:MtM X "list.append" qdW:=by
 intro pins s σ H x vs v us Q I d c h;obtain ⟨l,xs,y,rfl,rfl,a,hz,q⟩:=h;cases d;obtain ⟨u,rfl,b⟩:=c.one;obtain ⟨z,its,n,r,hl,e⟩:=I.lstM a;refine kE F.slot_list_append ⟨_,e,rfl⟩ F.entry_list_append (F.args_list_append_2 _ _) (PySem.list_append l its.toArray n u (by rw [yx];omega)) ⟨e,?_⟩;refine ⟨.non,_,I.lset (its':=its++[u]) a e (by simp) (r.append (.cons b .nil)) ?_,rfl,q⟩;rw [yt,List.length_singleton];omega
def qdX:V->List V->Hp->VK->Prop:=fun x vs H Q=>∃ l b xs a,x=.ref l/\vs=[.ref b]/\H l=some (.lst xs)/\H b=some (.lst a)/\xs.length+a.length<=sizeLine/\Q .non (upd H l (.lst (xs++a)))
theorem mt_extend:MtM X "list.extend" qdX:=by
 intro pins s σ H x vs v us Q I t p h;obtain ⟨l,b,xs,y,rfl,rfl,d,g,hz,q⟩:=h;cases t;obtain ⟨u,rfl,o⟩:=p.one;cases o;obtain ⟨z,its,n,r,hl,e⟩:=I.lstM d;obtain ⟨w,a,j,m,i,f⟩:=I.lstM g;have hsz:its.toArray.size+a.toArray.size<=sizeLine:=by rw [yx,yx];omega
 have c:¬ (!its.toArray.isEmpty&&Builtin.List.listTooLong (its.toArray.size+a.toArray.size))=true:=by
  rw [qdb hsz,Bool.and_false];exact Yn
 refine kE F.slot_list_extend ⟨_,e,rfl⟩ F.entry_list_extend (F.args_list_extend_2 _ _)
  (AutoSeq1.list_extend_list_list_0 l its.toArray n b a.toArray j c (by rw [yx];omega) (by omega)) ⟨e,f,?_⟩
 refine ⟨.non,_,I.lset (its':=its++a) d e (by simp) (r.append m) ?_,rfl,q⟩;rw [yt];omega
def qeM:V->List V->Hp->VK->Prop:=fun x vs H Q=>∃ l xs i k y,x=.ref l/\vs=[.int i]/\H l=some (.lst xs)/\-(2 ^ 63)<=i/\i<2 ^ 63/\seqIndex? i xs.length=some k/\xs[k]?=some y/\Q y (upd H l (.lst (xs.eraseIdx k)))
theorem mt_popAt:MtM X "list.pop" qeM:=by
 intro pins s σ H x vs v us Q I m j h;obtain ⟨l,xs,i,k,y,rfl,rfl,b,h1,c,d,f,q⟩:=h;cases m;obtain ⟨u,rfl,g⟩:=j.one;obtain ⟨t,rfl⟩:=g;obtain ⟨z,its,n,r,hl,e⟩:=I.lstM b;obtain ⟨w,hw,a⟩:=r.get f;refine kE F.slot_list_pop ⟨_,e,rfl⟩ F.entry_list_pop (F.args_list_pop_2 _ _)
  (MeetsSeq.list_pop_at l its.toArray n i t k w (fitsIndex_both h1 c) (by rw [yx,<- hl];exact d) (by rw [<- xz];exact hw) (by rw [yx];omega)) ⟨e,?_⟩
 refine ⟨y,_,I.lset (its':=its.eraseIdx k) b e ?_ (r.eraseIdx k) ?_,a,q⟩
 ·show its.toArray.eraseIdxIfInBounds k=(its.eraseIdx k).toArray;rw [List.eraseIdxIfInBounds_toArray]
 ·have:=qcl xs k;omega
def qgv:R2:=fun x y H Q=>∃ l b xs a,x=.ref l/\y=.ref b/\H l=some (.lst xs)/\H b=some (.lst a)/\xs.length+a.length<=sizeLine/\∀ p,H p=none->Q (.ref p) (upd H p (.lst (xs++a)))
theorem op_cat:OpR X (binaryOp .Add) qgv:=by
 intro pins s σ H x y v u Q I m o h;obtain ⟨l,b,xs,w,rfl,rfl,g,f,hz,q⟩:=h;cases m;cases o;obtain ⟨z,its,n,r,hl,e⟩:=I.lstM g;obtain ⟨t,a,p,j,i,c⟩:=I.lstM f;refine PySem.P.add_list e c ?_ (by rw [yx,yx];omega);have d:its.toArray++a.toArray=(its++a).toArray:=by simp
 rw [d];exact ⟨.ref _,_,I.lnew (t':=s.toks) (r.append j) (by rw [yt];omega),rfl,q _ I.fresh⟩
def qgw:R2:=fun x y H Q=>∃ l k xs,x=.ref l/\y=.int k/\H l=some (.lst xs)/\-(2 ^ 63)<=k/\k<2 ^ 63/\xs.length*k.toNat<=sizeLine /\
 ∀ p,H p=none->Q (.ref p) (upd H p (.lst (List.replicate k.toNat xs).flatten))
theorem len_rep (xs:List α) (k:Nat):(List.replicate k xs).flatten.length=k*xs.length:=by
 induction k with
 | zero=>simp
 | succ k ih=>rw [xp,Xl,yt,ih,Nat.succ_mul,Nat.add_comm]
theorem qdY:OpR X (binaryOp .Mult) qgw:=by
 intro pins s σ H x y v u Q I A B h;obtain ⟨l,k,xs,rfl,rfl,w,h1,p,hz,q⟩:=h;cases A;obtain ⟨t,rfl⟩:=B;obtain ⟨z,its,n,r,hl,e⟩:=I.lstM w;have f:its.toArray.size*k.toNat<=sizeLine:=by rw [yx,<- hl];exact hz
 have c:¬ its.toArray.size*k.toNat>(2 ^ 63-1) / 8:=by
  have:(sizeLine:Nat)<=(2 ^ 63-1) / 8:=by decide
  omega
 have d:¬ (!Builtin.List.listFitsIndex k)=true:=by
  rw [fitsIndex_both h1 p];exact Yn
 have b:¬ Builtin.List.listTooLong (its.toArray.size*k.toNat)=true:=by
  rw [qdb f];exact Yn
 have g:List.foldl (fun i j=>i++j) #[] (List.replicate (if its.toArray.isEmpty=true then 0 else k.toNat) its.toArray)=(List.replicate k.toNat its).flatten.toArray:=by
  have o:∀ m:Nat,List.foldl (fun i j=>i++j) #[] (List.replicate m its.toArray)=(List.replicate m its).flatten.toArray:=fun m=>by
   have:=qcm its m [];rw [List.nil_append] at this;exact this
  rw [o]
  cases its with
  | nil=>simp
  | cons a r'=>rw [yy (by simp)]
 refine wpAny_binaryOp_repeat_ref (T:="list") (U:="int") (by decide) ⟨_,e,rfl⟩ (fun s'=>typeIs_int s' k t) noFill_list_mul F.fills_int_mul F.slot_int_rmul repeat_list F.slot_int_index.lookup
  (kE F.slot_int_rmul (typeIs_int s k t) F.entry_int_rmul (F.args_int_rmul_2 _ _) (int___rmul___int_list k t l its.toArray n)
   ⟨e,rfl,⟨_,e,rfl⟩,kE F.slot_list_mul ⟨_,e,rfl⟩ F.entry_list_mul (F.args_list_mul_2 _ _) (AutoListH.list___mul___list_int_3 l its.toArray n k t d c b) ⟨e,?_⟩⟩)
 rw [g];exact ⟨.ref _,_,I.lnew (t':=s.toks) (r.rep k.toNat) (by rw [len_rep,Nat.mul_comm];exact hz),rfl,q _ I.fresh⟩
end
section
variable {prog:Program} {w:World} {A:Around} {E:Value->Shared->Prop} {s:Shared}
set_option maxRecDepth 100000 in
end
section
variable {X:Cx}
end
section
variable {κ:Type} [DecidableEq κ]
noncomputable def jG (kvs:List (κ×V)) (k:κ):Option V:=(kvs.find? fun a=>decide (a.1=k)).map (·.2)
noncomputable def zc (kvs:List (κ×V)) (k:κ) (v:V):List (κ×V):=
 if (kvs.any fun a=>decide (a.1=k))=true then kvs.map (fun a=>if a.1=k then (a.1,v) else a) else kvs++[(k,v)]
noncomputable def dropK (kvs:List (κ×V)) (k:κ):List (κ×V):=kvs.filter fun a=>decide (a.1≠k)
theorem q9 {p:κ×V} {r:List (κ×V)} {k:κ} (e:p.1=k):jG (p::r) k=some p.2:=by simp [jG,xE,e]
theorem qP {p:κ×V} {r:List (κ×V)} {k:κ} (e:¬ p.1=k):jG (p::r) k=jG r k:=by simp [jG,xE,e]
theorem zW (k:κ):∀ kvs:List (κ×V),(kvs.any fun a=>decide (a.1=k))=(jG kvs k).isSome
 | []=>rfl
 | p::r=>by
  rw [Xi];by_cases e:p.1=k
  ·simp only [q9 e,yB e,Bool.true_or,XE]
  ·rw [qP e,yl e,Bool.false_or];exact zW k r
theorem qdc (k j:κ) (y:V):∀ kvs:List (κ×V),jG (kvs.map fun a=>if a.1=k then (a.1,y) else a) j=(jG kvs j).map fun x=>if j=k then y else x
 | []=>rfl
 | p::r=>by
  have b:=qdc k j y r;rw [YG];by_cases h:p.1=k
  ·rw [yF h];by_cases e:p.1=j
   ·rw [q9 (p:=(p.1,y)) e,q9 e,kn,yF (e.symm.trans h)]
   ·rw [qP (p:=(p.1,y)) e,qP e,b]
  ·rw [yy h];by_cases e:p.1=j
   ·rw [q9 (p:=p) e,q9 e,kn,yy (fun z=>h (e.trans z))]
   ·rw [qP (p:=p) e,qP e,b]
theorem qcn (k j:κ) (y:V):∀ kvs:List (κ×V),jG kvs k=none->jG (kvs++[(k,y)]) j=if j=k then some y else jG kvs j
 | [],_=>by
  by_cases e:k=j
  ·rw [yF e.symm];exact q9 (p:=(k,y)) e
  ·rw [yy (fun z=>e z.symm)];exact qP (p:=(k,y)) e
 | p::r,hn=>by
  rw [kP];have a:¬ p.1=k:=fun z=>by rw [q9 z] at hn;cases hn
  rw [qP a] at hn;have b:=qcn k j y r hn;by_cases e:p.1=j
  ·rw [q9 e,q9 e,yy (fun z=>a (e.trans z))]
  ·rw [qP e,qP e,b]
theorem qaS (kvs:List (κ×V)) (k j:κ) (y:V):jG (zc kvs k y) j=if j=k then some y else jG kvs j:=by
 unfold zc;by_cases a:(kvs.any fun c=>decide (c.1=k))=true
 ·rw [yF a,qdc];rw [zW] at a;by_cases e:j=k
  ·obtain ⟨x,b⟩:=YV.mp a;rw [yF e,e,b,kn,yF rfl]
  ·rw [yy e]
   cases jG kvs j with
   | none=>rfl
   | some x=>rw [kn,yy e]
 ·rw [yy a];refine qcn k j y kvs ?_;rw [zW] at a
  cases q:jG kvs k with
  | none=>rfl
  | some x=>rw [q] at a;exact (a rfl).elim
theorem jI (kvs:List (κ×V)) (k:κ) (v:V):(zc kvs k v).length<=kvs.length+1:=by
 unfold zc;split
 ·rw [ya];omega
 ·rw [yt,yC,YX];omega
theorem qap {kvs:List (κ×V)} {k:κ} (v:V) (h:jG kvs k=none):zc kvs k v=kvs++[(k,v)]:=by
 unfold zc;rw [zW,h];exact yy (by decide)
theorem RelO.isSome_eq {u:Option Value} (r:RelO o u):o.isSome=u.isSome:=by
 cases o with
 | none=>cases u with
  | none=>rfl
  | some _=>exact (show False from r).elim
 | some _=>cases u with
  | none=>exact (show False from r).elim
  | some _=>rfl
theorem RelO.getD {u:Option Value} {d:V} {d':Value} (r:RelO o u) (rd:RelV d d'):RelV (o.getD d) (u.getD d'):=by
 cases o with
 | none=>cases u with
  | none=>exact rd
  | some _=>exact (show False from r).elim
 | some _=>cases u with
  | none=>exact (show False from r).elim
  | some _=>exact r
theorem KV.val {kvs:List (κ×V)} {vs:List (κ×Value)} (r:KV kvs vs) (k:κ):RelO (jG kvs k) (valueAt vs k):=by
 unfold KV at r
 induction r with
 | nil=>exact YM
 | @cons p q ps qs h t ih =>
  obtain ⟨h1,c⟩:=h;by_cases e:p.1=k
  ·have a:q.1=k:=h1.symm.trans e;have b:valueAt (q::qs) k=some q.2:=by simp [valueAt,xE,a]
   rw [q9 e,b];exact c
  ·have a:¬ q.1=k:=fun z=>e (h1.trans z);have b:valueAt (q::qs) k=valueAt qs k:=by simp [valueAt,xE,a]
   rw [qP e,b];exact ih
theorem KV.any {kvs:List (κ×V)} {vs:List (κ×Value)} (r:KV kvs vs) (k:κ):(kvs.any fun a=>decide (a.1=k))=vs.any fun a=>decide (a.1=k):=by
 unfold KV at r
 induction r with
 | nil=>rfl
 | cons h t ih=>rw [Xi,Xi,ih,h.1]
theorem KV.repl {kvs:List (κ×V)} {vs:List (κ×Value)} (r:KV kvs vs) (k:κ) (c:RelV y u) :
  KV (kvs.map fun a=>if a.1=k then (a.1,y) else a) (vs.map fun a=>if a.1=k then (a.1,u) else a):=by
 unfold KV at r ⊢
 induction r with
 | nil=>exact .nil
 | @cons p q ps qs h t ih =>
  rw [YG,YG];refine .cons ?_ ih;obtain ⟨h1,b⟩:=h;by_cases e:p.1=k
  ·rw [yF e,yF (h1.symm.trans e)];exact ⟨h1,c⟩
  ·rw [yy e,yy (fun z=>e (h1.trans z))];exact ⟨h1,b⟩
theorem KV.put {kvs:List (κ×V)} {vs:List (κ×Value)} (r:KV kvs vs) (k:κ) (a:RelV y u):KV (zc kvs k y) (stored vs k u):=by
 unfold zc stored;rw [r.any k];by_cases e:(vs.any fun b=>decide (b.1=k))=true
 ·rw [yF e,yF e];exact r.repl k a
 ·rw [yy e,yy e];exact Paired.snoc r ⟨rfl,a⟩
theorem KV.length {kvs:List (κ×V)} {vs:List (κ×Value)} (r:KV kvs vs):kvs.length=vs.length:=X9 r
end
theorem qdB {k:Key} (r:RelV (kV k) u):(jg P w).is k u=true:=by
 cases k with
 | inl i=>obtain ⟨t,e⟩:=(show ∃ t,u=Value.int i t from r);subst e;exact mixKind_int P w i t
 | inr x=>obtain ⟨t,e⟩:=(show ∃ t,u=Value.str x t from r);subst e;exact mixKind_str P w x t
theorem qco:∀ {ks:List Key} {us:List Value},Vals (ks.map kV) us->ItemsAre (jg P w) ks us
 | [],_,r=>by rw [List.map_nil] at r;cases r;exact .nil
 | k::ks,_,r=>by
  rw [YG] at r
  cases r with
  | cons h t=>exact .cons (qdB h) (qco t)
abbrev KT (H:Hp):List (List Key×V)->List (List Key×Addr×Value)->Prop:=Paired fun p q=>p.1=q.1/\H q.2.1=some (.tup (p.1.map kV))/\RelV p.2 q.2.2
theorem KT.val {xs:List (List Key×Addr×Value)} (r:KT H kvs xs) (k:List Key):RelO (jG kvs k) ((atKey xs k).map (·.2)):=by
 induction r with
 | nil=>exact YM
 | @cons p q ps qs h t ih =>
  obtain ⟨h1,_,c⟩:=h;by_cases e:p.1=k
  ·have a:q.1=k:=h1.symm.trans e;have b:atKey (q::qs) k=some q.2:=by simp [atKey,xE,a]
   rw [q9 e,b];exact c
  ·have a:¬ q.1=k:=fun z=>e (h1.trans z);have b:atKey (q::qs) k=atKey qs k:=by simp [atKey,xE,a]
   rw [qP e,b];exact ih
theorem KT.repl {xs:List (List Key×Addr×Value)} (r:KT H kvs xs) (k:List Key) (d:RelV y u) :
  KT H (kvs.map fun a=>if a.1=k then (a.1,y) else a) (xs.map (putAt k u)):=by
 induction r with
 | nil=>exact .nil
 | @cons p q ps qs h t ih =>
  rw [YG,YG];refine .cons ?_ ih;obtain ⟨h1,b,c⟩:=h;unfold putAt;by_cases e:p.1=k
  ·rw [yF e,yF (h1.symm.trans e)];exact ⟨h1,b,d⟩
  ·rw [yy e,yy (fun z=>e (h1.trans z))];exact ⟨h1,b,c⟩
theorem KT.put {xs:List (List Key×Addr×Value)} (r:KT H kvs xs) (k:List Key) {b:Addr} (c:H b=some (.tup (k.map kV))) (a:RelV y u) :
  KT H (zc kvs k y) (storedH xs k b u):=by
 have e:(kvs.any fun d=>decide (d.1=k))=(atKey xs k).isSome:=by
  rw [zW,(r.val k).isSome_eq,Xm]
 unfold zc storedH;rw [e];by_cases q:(atKey xs k).isSome=true
 ·rw [yF q,yF q];exact r.repl k a
 ·rw [yy q,yy q];exact Paired.snoc r ⟨rfl,c,a⟩
theorem KT.keeps {xs:List (List Key×Addr×Value)} (r:KT H kvs xs) (a:∀ b ys,H b=some (.tup ys)->H' b=some (.tup ys)):KT H' kvs xs:=
 Paired.mapP r fun _ _ z=>⟨z.1,a _ _ z.2.1,z.2.2⟩
section
variable {P:Program} {w:World} {H:Hp} {h:Heap} {a:Addr}
theorem qfJ {u:HO} (ok:HOk P w H h) (e:Rd H a u):ObjOk P w H h a u:=e.ok ok
theorem qcp {kvs:List (Key×V)} (ok:HOk P w H h) (e:Rd H a (.dK kvs)):kvs.length<=sizeLine/\(a==sysModules)=false/\∃ vs,KV kvs vs/\h.DictOf (jg P w) a vs:=
 show ObjOk P w H h a (.dK kvs) from qfJ ok e
theorem qdZ {kvs:List (Key×V)} (ok:HOk P w H h) (e:H a=some (.dK kvs)):kvs.length<=sizeLine/\(a==sysModules)=false/\∃ vs,KV kvs vs/\h.DictOf (jg P w) a vs:=qcp ok (.inl e)
theorem qbF {ks:List Key} (ok:HOk P w H h) (e:H a=some (.tup (ks.map kV))):(tupleKind (jg P w)).is h ks a:=by
 obtain ⟨_,its,r,o,h1,b,n,c⟩:=(show ObjOk P w H h a (.tup (ks.map kV)) from ok a _ e);exact ⟨o,its.toArray,n,h1,b,c,by simpa using qco r⟩
theorem qcN (ok:HOk P w H h) (e:Rd H a (.dT kvs)):kvs.length<=sizeLine/\(a==sysModules)=false /\
  ∃ xs,KT H kvs xs/\h.DictOfH (tupleKind (jg P w)) a xs:=by
 obtain ⟨z,y,xs,r,o,b,ep,h1,c,d,f,g⟩:=(show ObjOk P w H h a (.dT kvs) from qfJ ok e);refine ⟨z,y,xs,r,o,b,ep,h1,c,d,f,fun x hx=>?_,g⟩
 have all:∀ {l:List (List Key×V)} {m:List (List Key×Addr×Value)},KT H l m->∀ x∈m,(tupleKind (jg P w)).is h x.1 x.2.1:=by
  intro l m q
  induction q with
  | nil=>intro x hx;exact nomatch hx
  | @cons p q ps qs hq t ih =>
   intro x hx;rcases yv.mp hx with e | hx
   ·subst e;exact qbF ok (by rw [<- hq.1];exact hq.2.1)
   ·exact ih x hx
 exact all r x hx
theorem dt_of (ok:HOk P w H h) (e:H a=some (.dT kvs)):kvs.length<=sizeLine/\(a==sysModules)=false /\
  ∃ xs,KT H kvs xs/\h.DictOfH (tupleKind (jg P w)) a xs:=qcN ok (.inl e)
end
def DGet (H:Hp) (a:Addr) (y:V) (r:Option V):Prop:=
 (∃ kvs k,Rd H a (.dK kvs)/\y=kV k/\r=jG kvs k)\/∃ kvs k b,Rd H a (.dT kvs)/\y=.ref b/\H b=some (.tup (k.map kV))/\r=jG kvs k
def DPut (H:Hp) (a:Addr) (y v:V) (H':Hp):Prop:=
 (∃ kvs k,H a=some (.dK kvs)/\y=kV k/\kvs.length<sizeLine/\H'=upd H a (.dK (zc kvs k v))) \/
 ∃ kvs k b,H a=some (.dT kvs)/\y=.ref b/\H b=some (.tup (k.map kV))/\kvs.length<sizeLine/\H'=upd H a (.dT (zc kvs k v))
theorem DGet.k {kvs:List (Key×V)} {k:Key} (e:H a=some (.dK kvs)):DGet H a (kV k) (jG kvs k):=.inl ⟨kvs,k,.inl e,rfl,rfl⟩
theorem DPut.k {kvs:List (Key×V)} {k:Key} {v:V} (e:H a=some (.dK kvs)) (hl:kvs.length<sizeLine):DPut H a (kV k) v (upd H a (.dK (zc kvs k v))):=.inl ⟨kvs,k,e,rfl,hl,rfl⟩
section
variable {X:Cx} {pins:List (Addr×Obj)} {σ:St} {H:Hp} {s:Shared} {a:Addr} {y v:V} {u r:Value} {o:Option V} {A:Around} {E:Value->Shared->Prop}
theorem Inv.big (I:Inv X pins σ H s):sysModules<s.heap.objs.size:=by
 have h:mainGlobals<s.heap.objs.size:=(I.mod.glob.keeps I.bk).lt;exact kX (by decide) h
theorem d_getItem {Q:Value->Shared->Prop} (x:A.units+1<cLine) (I:Inv X pins σ H s) (g:DGet H a y (some v)) (n:RelV y u) (h:∀ f s',Inv X pins σ H s'->RelV v f->Q f s') :
  wpAny (model X.prog X.w) A (getItem (.ref a) u) Q E s:=by
 rcases g with ⟨kvs,k,e,j,l⟩ | ⟨kvs,k,b,e,j,q,l⟩
 ·subst j;obtain ⟨z,r,vs,c,i⟩:=qcp I.hok e;obtain ⟨f,hw,d⟩:=RelO.some_of (v:=v) (o:=valueAt vs k) (by rw [l];exact c.val k);exact wpAny_getItem_of (qdB n) i.mapOf hw (h f _ (I.tok _) d)
 ·subst j;cases (show u=Value.ref b from n);obtain ⟨z,r,xs,c,i⟩:=qcN I.hok e;obtain ⟨f,hw,d⟩:=RelO.some_of (v:=v) (o:=(atKey xs k).map (·.2)) (by rw [l];exact c.val k);obtain ⟨p,t,m⟩:=yn.mp hw;refine wpAny_getItem_heap (xY x) (qbF I.hok q) i t ?_;rw [m];exact h f _ (I.tok _) d
theorem d_in {Q:Value->Shared->Prop} (n:A.units+1<cLine) (I:Inv X pins σ H s) (g:DGet H a y o) (j:RelV y u) (h:∀ s',Inv X pins σ H s'->Q (.bool o.isSome) s') :
  wpAny (model X.prog X.w) A (compareOp .In u (.ref a)) Q E s:=by
 rcases g with ⟨kvs,k,e,f,l⟩ | ⟨kvs,k,b,e,f,m,l⟩
 ·subst f;obtain ⟨z,i,vs,c,d⟩:=qcp I.hok e;refine wpAny_in_of (qdB j) i d.mapOf ?_;rw [<- (c.val k).isSome_eq,<- l];exact h _ (I.tok _)
 ·subst f;cases (show u=Value.ref b from j);obtain ⟨z,i,xs,c,d⟩:=qcN I.hok e;refine wpAny_in_heap (xY n) (qbF I.hok m) i d ?_;have q:=(c.val k).isSome_eq;rw [Xm] at q;rw [<- q,<- l];exact h _ (I.tok _)
theorem d_notIn {Q:Value->Shared->Prop} (n:A.units+1<cLine) (I:Inv X pins σ H s) (g:DGet H a y o) (j:RelV y u) (h:∀ s',Inv X pins σ H s'->Q (.bool (!o.isSome)) s') :
  wpAny (model X.prog X.w) A (compareOp .NotIn u (.ref a)) Q E s:=by
 rcases g with ⟨kvs,k,e,f,l⟩ | ⟨kvs,k,b,e,f,m,l⟩
 ·subst f;obtain ⟨z,i,vs,c,d⟩:=qcp I.hok e;refine wpAny_notIn_of (qdB j) i d.mapOf ?_;rw [<- (c.val k).isSome_eq,<- l];exact h _ (I.tok _)
 ·subst f;cases (show u=Value.ref b from j);obtain ⟨z,i,xs,c,d⟩:=qcN I.hok e;refine wpAny_notIn_heap (xY n) (qbF I.hok m) i d ?_;have q:=(c.val k).isSome_eq;rw [Xm] at q;rw [<- q,<- l];exact h _ (I.tok _)
theorem qcO {c:HO} (I:Inv X pins σ H s) (h:Mut (H a)) (g:Heap.SameBut a s.heap h') (f:∃ q,h'.get? a=some q) (new:ObjOk X.prog X.w (upd H a c) h' a c) :
  Inv X pins σ (upd H a c) { s with heap:=h',toks:=t' }:=
 I.write (x:=a) (e:=a) h (.inl rfl) (fun b q d z=>(g.2 b d).trans z) f new
theorem qeN {kvs:List (Key×V)} {vs:List (Key×Value)} (z:kvs.length<=sizeLine) (d:(a==sysModules)=false) (b:KV kvs vs) (c:h'.DictOf (jg P w) a vs) :
  ObjOk P w H' h' a (.dK kvs):=⟨z,d,vs,b,c⟩
theorem d_setItem {Q:Unit->Shared->Prop} (M:A.units+1<cLine) (I:Inv X pins σ H s) (g:DPut H a y v H') (C:RelV y u) (B:RelV v r) (h:∀ s',Inv X pins σ H' s'->Q () s') :
  wpAny (model X.prog X.w) A (setItem (.ref a) u r) Q E s:=by
 rcases g with ⟨kvs,k,e,n,l,m⟩ | ⟨kvs,k,b,e,n,t,l,m⟩
 ·subst n m;obtain ⟨z,o,vs,d,j⟩:=qdZ I.hok e;have hz:vs.length<=sizeLine:=by rw [<- d.length];exact z
  have hl:(zc kvs k v).length<=sizeLine:=by have:=jI kvs k v;omega
  refine wpAny_setItem_pairs (hsz:=hz) (qdB C) j fun h' f p=>h _ ?_;have L:∃ q,h'.get? a=some q:=let ⟨q,_,_,i,_⟩:=f;⟨q,i⟩;exact qcO I (by rw [e];exact YM) p L (qeN hl o (d.put k B) f)
 ·subst n m;cases (show u=Value.ref b from C);obtain ⟨z,o,xs,d,j⟩:=dt_of I.hok e;have hz:xs.length<=sizeLine:=by rw [<- X9 d];exact z
  have hl:(zc kvs k v).length<=sizeLine:=by have:=jI kvs k v;omega
  refine wpAny_setItem_heap (hsz:=hz) (xY M) (qbF I.hok t) j fun h' f p=>h _ ?_;obtain ⟨q,D,ep,i,F,G,J,_,K⟩:=f;refine qcO I (by rw [e];exact YM) p ⟨q,i⟩ ⟨hl,o,_,(d.put k t B).keeps fun c ys x=>?_,q,D,ep,i,F,G,J,K⟩;rw [qf (qan x e (fun z=>nomatch z))];exact x
end
section
variable {X:Cx} {pins:List (Addr×Obj)} {σ:St} {H:Hp} {s:Shared} {a:Addr} {kvs:List (Key×V)} {k:Key} {u:Value} {A:Around} {E:Value->Shared->Prop}
theorem d_clear {Q:Value->Shared->Prop} (I:Inv X pins σ H s) (e:H a=some (.dK kvs)) (h:∀ s',Inv X pins σ (upd H a (.dK [])) s'->Q .none s'):wpAny (model X.prog X.w) A (call (.builtin "dict.clear") [.ref a]) Q E s:=by
 obtain ⟨z,f,vs,c,d⟩:=qdZ I.hok e;refine call_meetsIn PySem.F.slot_dict_clear d.typeIs PySem.F.entry_dict_clear (PySem.F.args_dict_clear_1 _) (meets_dict_clear (jg X.prog X.w) a) ⟨vs,d,by rw [<- c.length];exact z,fun h' b i=>h _ ?_⟩;have g:∃ q,h'.get? a=some q:=let ⟨q,_,_,hq,_⟩:=b;⟨q,hq⟩;exact qcO (t':=s.toks) I (by rw [e];exact YM) i g (qeN (YI _) f .nil b)
theorem d_len {Q:Value->Shared->Prop} (I:Inv X pins σ H s) (e:Rd H a (.dK kvs)) (h:∀ t s',Inv X pins σ H s'->Q (.int kvs.length t) s'):wpAny (model X.prog X.w) A (call (.builtin "len") [.ref a]) Q E s:=by
 obtain ⟨z,d,vs,b,c⟩:=qcp I.hok e;refine call_len_dict d c (by rw [<- b.length];rw [YL] at z;omega) ?_;rw [<- b.length];exact h _ _ (I.tok _)
end
theorem dict_typeIs (I:Inv X pins σ H s) (g:DGet H a y o):s.TypeIs (.ref a) "dict":=by
 rcases g with ⟨kvs,k,e,_,_⟩ | ⟨kvs,k,b,e,_,_,_⟩
 ·obtain ⟨_,_,vs,_,c⟩:=qcp I.hok e;exact c.typeIs
 ·obtain ⟨_,_,xs,_,c⟩:=qcN I.hok e;exact c.typeIs
section
variable {X:Cx} {o i e value:Expr} {pos pos' tpos:Pos} {td ty tv:TE}
end
theorem dk_empty (h:Heap) (a:sysModules<h.objs.size):ObjOk P w H (h.push { cls:=.type "dict",data:=.dict #[] }) h.objs.size (.dK []):=
 ⟨YI _,Yx.mpr (Yh (yI a)),[],.nil,Heap.DictOf.new h⟩
def tDNewK:TE:=fun _ H Q=>∀ p,H p=none->Q (.ref p) (upd H p (.dK []))
section
variable {X:Cx} {pos:Pos}
theorem jM:PE X (.Dict [] [] pos) tDNewK:=fun pins s σ H Q I h =>
 wpAny_Dict_empty ⟨.ref s.heap.objs.size,_,I.laid (a:=s.heap.objs.size) (o:=.dK []) (t':=s.toks) (fun _ _ q=>yu _ q) (yh _) (dk_empty s.heap I.big),rfl,h _ (I.hok.fresh (yh _))⟩
end
noncomputable def mergeK (kvs a:List (Key×V)):List (Key×V):=a.foldl (fun acc b=>zc acc b.1 b.2) kvs
structure M1 (X:Cx) (o:Expr) (m:Str) (apos:Pos) (e:Expr) (cpos:Pos):Prop where
 base:attributeBase o m X.env (eval o X.env)=eval o X.env
 few:((backTo cpos (starEach [e] X.env)).all (fun x=>!x.1)&&(backToKw cpos (keywordEach [] X.env)).all (fun x=>x.1.isSome)
  && decide (([e]:List Expr).length+([]:List Keyword).length+(if ([]:List Keyword).isEmpty then 0 else 1)<30))=true
 line:(apos.endLine==cpos.line)=true
 trees:backTo cpos (starEach [e] X.env)=[(false,eval e X.env)]
structure M2 (X:Cx) (o:Expr) (m:Str) (apos:Pos) (e f:Expr) (cpos:Pos):Prop where
 base:attributeBase o m X.env (eval o X.env)=eval o X.env
 few:((backTo cpos (starEach [e,f] X.env)).all (fun x=>!x.1)&&(backToKw cpos (keywordEach [] X.env)).all (fun x=>x.1.isSome)
  && decide (([e,f]:List Expr).length+([]:List Keyword).length+(if ([]:List Keyword).isEmpty then 0 else 1)<30))=true
 line:(apos.endLine==cpos.line)=true
 trees:backTo cpos (starEach [e,f] X.env)=[(false,eval e X.env),(false,eval f X.env)]
def IsD (H:Hp) (a:Addr):Prop:=(∃ kvs,Rd H a (.dK kvs))\/∃ kvs,Rd H a (.dT kvs)
theorem isD_at (I:Inv X pins σ H s) (d:IsD H a) :
  s.TypeIs (.ref a) "dict"/\(∀ b,Value.ref a=.ref b->∃ c,s.heap.get? b=some c/\c.dict=none)/\(a==sysModules)=false:=by
 rcases d with ⟨kvs,e⟩ | ⟨kvs,e⟩
 ·obtain ⟨_,h,vs,_,f⟩:=qcp I.hok e;refine ⟨f.typeIs,fun b q=>?_,h⟩;cases q;obtain ⟨c,_,_,h1,g,_⟩:=f;exact ⟨c,h1,g.2.1⟩
 ·obtain ⟨_,h,xs,_,f⟩:=qcN I.hok e;refine ⟨f.typeIs,fun b q=>?_,h⟩;cases q;obtain ⟨c,_,_,h1,g,_⟩:=f;exact ⟨c,h1,g.2.1⟩
section
variable {X:Cx} {pins:List (Addr×Obj)} {σ:St} {H:Hp} {s:Shared} {a:Addr} {y d:V} {u r:Value} {o:Option V} {A:Around} {E:Value->Shared->Prop}
theorem d_get1 {Q:Value->Shared->Prop} (p:A.units+1<cLine) (I:Inv X pins σ H s) (g:DGet H a y o) (j:RelV y u) (h:∀ m s',Inv X pins σ H s'->RelV (o.getD .non) m->Q m s') :
  wpAny (model X.prog X.w) A (call (.builtin "dict.get") [.ref a,u]) Q E s:=by
 rcases g with ⟨kvs,k,e,f,l⟩ | ⟨kvs,k,b,e,f,n,l⟩
 ·subst f;obtain ⟨z,i,vs,c,d⟩:=qcp I.hok e;refine call_meetsIn X6 d.typeIs PySem.F.entry_dict_get (PySem.F.args_dict_get_2 _ _) (meets_dict_get (jg X.prog X.w) a (qdB j) i) ⟨_,d.mapOf,h _ _ (I.tok _) ?_⟩;rw [l];exact (c.val k).getD rfl
 ·subst f;cases (show u=Value.ref b from j);obtain ⟨z,i,xs,c,d⟩:=qcN I.hok e;refine call_meetsIn X6 d.typeIs PySem.F.entry_dict_get (PySem.F.args_dict_get_2 _ _) (meetsH_dict_get (tupleKind (jg X.prog X.w)) a b i) ⟨xY p,k,xs,qbF I.hok n,d,h _ _ (I.tok _) ?_⟩;rw [l];exact (c.val k).getD rfl
end
def qeO (d ty:TE):TE:=fun σ H Q=>d σ H fun x b=>∃ a,x=.ref a/\IsD b a/\ty σ b fun y c=>∃ o,DGet c a y o/\Q (o.getD .non) c
def tDGet2 (e ty f:TE):TE:=fun σ H Q=>e σ H fun x b=>∃ a,x=.ref a/\IsD b a/\ty σ b fun y d=>f σ d fun z c=>∃ o,DGet c a y o/\Q (o.getD z) c
section
variable {X:Cx} {o e f:Expr} {apos cpos:Pos} {td ty tx:TE}
theorem qaq (q:X.A.units+1<cLine) (p:PE X o td) (n:PE X e ty) (m:M1 X o "get" apos e cpos):PE X (.Call (.Attribute o "get" apos) [e] [] cpos) (qeO td ty):=by
 intro pins s σ H Q I h;refine wpAny_Call_method m.base m.few m.line PySem.F.plainAttrs_dict X6 PySem.F.type_dict_get (thn (p pins s σ H _ I h) fun u z ⟨x,f,c,v,a,ex,d,r⟩=>?_);subst ex;obtain rfl:u=Value.ref a:=v;obtain ⟨B,C,_⟩:=isD_at c d;refine ⟨B,C,?_⟩;rw [m.trees];refine xX rfl (kg (XD (thn (n pins z σ f _ c r) fun D G ⟨y,i,j,w,E,g,t⟩=>XM ?_)));exact d_get1 q j g w fun K J l b=>⟨_,i,l,b,t⟩
end
section
variable {X:Cx} {pins:List (Addr×Obj)} {σ:St} {H:Hp} {s:Shared} {a:Addr} {kvs:List (Key×V)} {A:Around} {E:Value->Shared->Prop}
end
section
variable {X:Cx} {pins:List (Addr×Obj)} {σ:St} {H:Hp} {s:Shared} {a:Addr} {y:V} {u:Value} {A:Around} {E:Value->Shared->Prop}
end
end L2
namespace Att
open PySem PySem.W PySem.Calls PyProof.Rows
variable {P:Params} {h:Heap} {l:OpenLaw} {n:Nat}
theorem ints_of_wellAll:∀ (ns:List Int) (vs:List Value),WellAll P h vs (ns.map WData.int)->IntsAre vs ns:=by
 intro ns
 induction ns with
 | nil =>
  intro vs w;rw [List.map_nil] at w;cases w;exact .nil
 | cons n ns ih =>
  intro vs w;rw [YG] at w
  cases w with
  | cons a b =>
   cases a;exact .cons _ _ (ih _ b)
theorem script_of (p:l.most=some n) {args:List WData} {c:List Value}
  (b:l.row.toRowW.claim.pre args=true) (j:WellAll P h c args) :
  ∃ a vs ns,c=[Value.ref a]/\args=[WData.list (ns.map WData.int)]/\h.get? a=some { cls:=.type "list",data:=.seq vs.toArray }/\IntsAre vs ns/\ns.length<=n:=by
 have i:WShape.hasAll [] args [.list .int]=true:=(pre_splitW b).1;have hc:l.pre.holds [] { args:=args }=true:=(pre_splitW b).2;obtain ⟨d,r,rfl,h1,m⟩:=hasAllW_cons i;obtain rfl:=hasAllW_nil m;obtain ⟨xs,rfl,o⟩:=hasW_list h1;obtain ⟨ns,rfl⟩:=items_int o
 have e:ns.length<=n:=by
  unfold OpenLaw.pre at hc
  have f:(WTm.not (.lt (.lit (.int (n:Int))) (.len (.arg 0)))).holds [] { args:=[.list (ns.map .int)] }=true:=by
   have f:=(holds_andW hc).1;rw [p] at f;exact f
  have g:=condW_of f (w_not (w_lt w_lit (w_len_list (w_arg rfl))));rw [ya] at g;refine Nat.le_of_not_lt fun q=>?_;have s:(n:Int)<((ns.length:Nat):Int):=by omega
  first
   | (rw [yB s] at g;exact absurd g (by decide))
   | (simp at g;omega)
 cases j with
 | cons w1 w2 =>
  cases w2
  cases w1 with
  | list ho hall=>exact ⟨_,_,ns,rfl,rfl,ho,ints_of_wellAll ns _ hall,e⟩
theorem post_true (l:OpenLaw) (args:List WData):l.row.toRowW.claim.post args (.bool true) args=true:=
 postW_of (r:=l.row.toRowW) (X:=(true==true))
  (show WShape.has [] (.bool true) .bool=true by first | rfl | decide | simp [WShape.has,WShape.arms,WShape.armsAll])
  (show (WTm.eq .res (.lit (.bool true))).value [] { args:=args,res:=some (.bool true),after:=args }=some (.bool (true==true)) from w_eq_bool (w_res rfl) w_lit) rfl
theorem attach_call {q:Program} {loose:List Str} {XP:(Str->Option Value)->Heap->Prop} {YP:World->Heap->Prop} {d:DefRec}
  (M:l.most=some n) (u:d.params.defaults=[])
  (call:∀ (w:World) (c b:Shared) (s y:Str->Option Value) (h:Addr) (o:Obj) (z p e:Value) (a:Addr) (vs:List Value) (ns:List Int),
   Ground q loose [] XP w c s y b.heap->YP w b.heap ->
   b.heap.get? h=some o->o.data=.func (docDef d.name d.params d.body d.scope z p e)->b.heap.CodeRec p d.name->s d.name=some (.ref h) ->
   b.heap.get? a=some { cls:=.type "list",data:=.seq vs.toArray }->IntsAre vs ns->ns.length<=n->b.gens=#[] ->
   codeAny (model l.prog w) callerA (.call (.ref h) ⟨[.ref a],[]⟩) (fun r s'=>r=.ok (.ret (.bool true))/\OldK b.heap s'.heap/\s'.os=b.os/\AllBare s'.gens) b) :
  WalkO q loose XP YP l.row.toRowW d [] (fun f vs=>PySem.call f vs):=by
 intro w c b s y G Y h o z p e D kV N I t A v J args C as m B P x K;obtain rfl:D=.none:=Dflts.none A u;obtain rfl:kV=.none:=Dflts.noKw A;obtain ⟨a,vs,ns,rfl,rfl,j,g,i⟩:=script_of M m x;refine enter_call (XR (call w c b s y h o z p e a vs ns G Y N (fd_plain I) t v j g i J) fun r s' O=>?_);obtain ⟨rfl,E,F,H⟩:=O;exact ⟨.inl ⟨.bool true,.bool true,[],rfl,fun _=>rfl,.bool true,post_true l _,fun _=>⟨List.Pairwise.nil,fun _ L=>(nomatch L)⟩⟩,E,F,H⟩
section
variable {prog:Program} {w:World} {A:Around} {E:Value->Shared->Prop} {s:Shared} {K:Frag}
noncomputable def ledger (h:Heap) (L d:Addr):List (Addr×Obj):=(List.range h.objs.size).filterMap fun a=>if a=L\/a=d then none else (h.get? a).map fun o=>(a,o)
end
end Att
namespace L2
open PySem PySem.Spec PyProof.Rows
variable {A B:Prop} {H H':Hp} {a f:Addr} {fd:FuncData} {n:Nat} {ps:List Str} {qual x:Str} {sp:Sp} {st:Stmt}
theorem qcq:∀ {vs:List Value} {ns:List Int},IntsAre vs ns->Vals (ns.map V.int) vs
 | _,_,.nil=>.nil
 | _,_,.cons n t h=>.cons ⟨t,rfl⟩ (qcq h)
def qga (H:Hp):Prop:=∀ b,H b=none\/∃ o xs,H b=some (.frz o (.lst xs))
theorem law_call {P:Program} {w:World} {K:yg} {E S:Str->Option Value} {CX:CXT} {k:Nat} {L:Addr} {c:Shared} {vs:List Value} {ns:List Int}
  (U:K.In c.heap) (A:c.heap.Ns mainGlobals E) (f:c.heap.Ns builtinsNs S) (N:∀ x:Str,x≠"__name__"->S x=bootBuiltins x) (y:c.heap.NoLimit) (hg:c.gens=#[])
  (I:c.heap.get? a=some { cls:=.type "list",data:=.seq vs.toArray }) (Z:IntsAre vs ns) (hl:ns.length<=sizeLine) (hr:Room k callerA)
  (F:∀ base:Heap,K.In base->base.Ns mainGlobals E->FnOk P w K E base CX k L fd [x] sp) (j:∀ (s:Shared) (u:Value),BindsTo s fd ⟨[u],[]⟩ [(x,u)])
  (R:∀ H:Hp,qga H->SqL K H a (ns.map V.int)->sp [.ref a] H (fun v _=>v=.bl true) fun _ _ _=>False)
  (M:∀ H e s',CX [] H c (fun _ _ _=>False) e s'->False) :
  codeAny (model P w) callerA (.call (.ref L) ⟨[.ref a],[]⟩) (fun r s'=>r=.ok (.ret (.bool true))/\OldK c.heap s'.heap/\s'.os=c.os/\AllBare s'.gens) c:=by
 have rv:=qcq Z;have D:=Z.length;have i:∀ H:Hp,qga H->SqL K H a (ns.map V.int)->HOk P w H c.heap->(∀ b,H b≠none->b=a)->(H a≠none->K.lookup a=none) ->
   codeAny (model P w) callerA (.call (.ref L) ⟨[.ref a],[]⟩) (fun r s'=>r=.ok (.ret (.bool true))/\OldK c.heap s'.heap/\s'.os=c.os/\AllBare s'.gens) c:=by
  intro H Y hS B X hK;have base_of:∀ {b:Addr} {o:Obj},c.heap.get? b=some o->H b=none->(qez c.heap H).get? b=some o:=fun e n=>hidT_get e n
  have T:∀ {b:Addr} {o:Obj} {p:Array DictEntry} {ep:Nat},c.heap.get? b=some o->o.data=.dict p ep->H b=none:=fun {b o p ep} e d=>by
   cases q:H b with
   | none=>rfl
   | some u =>
    have J:b=a:=X b (by rw [q];simp);subst J;rw [I] at e;cases e;have d':Data.seq vs.toArray _=Data.dict p ep:=d;cases d'
  have g:∀ {b:Addr} {m:Str->Option Value},c.heap.Ns b m->(qez c.heap H).Ns b m:=fun {b m} ⟨o,p,ep,e,d,r⟩=>⟨o,p,ep,base_of e (T e d),d,r⟩
  have t:K.In (qez c.heap H):=fun b o e=>base_of (U b o e) (by
   cases q:H b with
   | none=>rfl
   | some u =>
    have J:b=a:=X b (by rw [q];simp);subst J;rw [hK (by rw [q];simp)] at e;cases e)
  have hM:Mod K E (qez c.heap H):=⟨t,g A,⟨S,g f,N⟩,let ⟨mc,h1,h2⟩:=y;⟨mc,g h1,h2⟩⟩;have e0:Env0 P w K E (qez c.heap H) callerA [] c H:=⟨rfl,hM,fun b o e=>of_hidT e,XJ (hidT_size _ _),trivial,fun b f=>absurd (show b∈([]:List Addr) from f) (by simp),B,.of_eq hg⟩;refine XR ((F _ t (g A)).run callerA [] c H ⟨[.ref a],[]⟩ [.ref a] [.ref a] _ _ hr e0 (j c (.ref a)) (.cons rfl .nil) (R H Y hS)) fun r s' h=>?_
  cases r with
  | error e=>exact (M H e s' h).elim
  | ok fl =>
   cases fl with
   | next=>exact False.elim h
   | brk=>exact False.elim h
   | cont=>exact False.elim h
   | ret u =>
    obtain ⟨v,H',os,l,un,C,r',q⟩:=h;have q':v=.bl true:=q;subst q';obtain rfl:u=Value.bool true:=r';refine ⟨rfl,OldK.of_keep fun b o e=>?_,os,l⟩
    cases q:H b with
    | none=>exact un.keep b o e q (by intro z;exact absurd (show b∈([]:List Addr) from z) (by simp)) (by simp)
    | some u =>
     rcases Y b with z | ⟨ob,xs,z⟩
     ·rw [q] at z;cases z
     ·have z2:=un.frzs b ob _ z;obtain ⟨W,_⟩:=B b _ z;obtain ⟨e2,_⟩:=C b _ z2;rw [e] at W;cases W;exact e2
 cases O:K.lookup a with
 | some o =>
  have e:=U a o O;rw [I] at e;cases e;refine i (fun _=>none) (fun _=>.inl rfl) (.inr ⟨_,vs.toArray,_,O,rfl,rfl,rfl,by rw [yx,D];exact hl,by simpa using rv⟩) (fun b u z=>by have G:(none:Option HO)=some u:=z;cases G) (fun b z=>absurd rfl z) fun z=>absurd rfl z
 | none =>
  refine i (fun b=>if b=a then some (.frz { cls:=.type "list",data:=.seq vs.toArray } (.lst (ns.map V.int))) else none) (fun b=>?_) (.inl (.inr ⟨{ cls:=.type "list",data:=.seq vs.toArray },yF rfl⟩)) (fun b u z=>?_) (fun b z=>?_) fun _=>O
  ·by_cases f:b=a
   ·exact .inr ⟨_,_,yF f⟩
   ·exact .inl (yy f)
  ·by_cases f:b=a
   ·have G:=(yF f).symm.trans z;cases G;subst f;exact ⟨I,by rw [ya];exact hl,vs,_,rv,I⟩
   ·have G:=(yy f).symm.trans z;cases G
  ·by_cases f:b=a
   ·exact f
   ·exact absurd (yy f) z
noncomputable abbrev KOf {K:yg} {h:Heap} (_:K.In h):yg:=K
theorem walk_of {l:PySem.W.OpenLaw} {k:Nat} {q:Program} {loose:List Str} {XP:(Str->Option Value)->Heap->Prop} {YP:World->Heap->Prop} {d:DefRec} {K:Params->yg} {CX:World->CXT} {sp:World->Sp}
  (R:l.most=some n) (A:n<=sizeLine) (y:d.params.defaults=[]) (S:Room k callerA)
  (M:∀ (w:World) (h:Heap),YP w h->(K w.params).In h)
  (F:∀ (w:World) (j:Str->Option Value) (r:Addr) (h:Heap),(K w.params).In h->h.Ns mainGlobals j->j d.name=some (.ref r) ->
   ∃ fd:FuncData,(∀ (s:Shared) (u:Value),BindsTo s fd ⟨[u],[]⟩ [(x,u)]) /\
    ∀ base:Heap,(K w.params).In base->base.Ns mainGlobals j->FnOk l.prog w (K w.params) j base (CX w) k r fd [x] (sp w))
  (B:∀ (w:World) (H:Hp) (a:Addr) (ns:List Int),ns.length<=n->qga H->SqL (K w.params) H a (ns.map V.int)->sp w [.ref a] H (fun v _=>v=.bl true) fun _ _ _=>False)
  (t:∀ (w:World) (H:Hp) (s:Shared) (e:Value) (s':Shared),CX w [] H s (fun _ _ _=>False) e s'->False) :
  PySem.W.WalkO q loose XP YP l.row.toRowW d [] (fun f vs=>PySem.call f vs):=by
 refine Att.attach_call R y fun w D p j mb r o pm U E a vs ns G Y Z X O z m i c P=>?_;have C:=M w _ Y;obtain ⟨fd,N,I⟩:=F w j r _ C G.T.g z;exact law_call C G.T.g G.T.b G.T.builtins G.T.nolimit P m i (yi c A) S I N (fun H J L=>B w H a ns c J L) fun H e s'=>t w H p e s'
abbrev CX0:CXT:=fun _ _ _ _ _ _=>False
abbrev E0:XK:=fun _ _ _=>False
theorem qz {X:Cx}:zJ CX0 X E0:=fun _ _ _ _ _ _ _ h=>h.elim
structure Fun (K:yg) (x qual:Str) (st:Stmt) (f:Addr) (fd:FuncData):Prop where
 ex:∃ (oc:Value) (od:Option Addr) (kV doc pm:Value) (an:Option Addr) (cdv ct:Value) (osl:Array (Option Value)),
  fd=PySem.W.fnOf x qual (qah st) (zt st) (qg st) .none kV doc pm an cdv ct/\K.lookup f=some ⟨oc,od,.func fd,osl⟩/\PySem.W.codeIn K cdv qual=true
 kp:PySem.W.keepIn K (.ref f)=true
section
variable {P:Program} {w:World} {K:yg} {mg:Str->Option Value} {base:Heap}
theorem Fun.ok {N:List Str} {k:Nat} (F:Fun K x qual st f fd) (S:FnScope N ps (qg st)) (c:∀ (b:Value) (A:Around) (a:List Env) (s:Shared) (H:Hp) (vs:List V) (Q:VK) (E:XK),Room k (A.deeper (envOfC qual (qg st) s.heap.objs.size f b))->sp vs H Q E ->
   ∃ t,PSs (qeK CX0 P w K mg base N qual (qg st) f b A a s H E).nox (zt st) t/\t { nx:=fun _ H'=>Q .non H',rt:=Q } (start N vs) H) (g:∀ vs H Q E,sp vs H Q E->vs.length=ps.length:=by intro _ _ _ _ h;cases h;subst_vars;rfl):FnOk P w K mg base CX0 (k+1) f fd ps sp:=by
 obtain ⟨o,od,kV,i,p,n,b,ct,m,rfl,l,d⟩:=F.ex;refine qfG l d S g fun A a s H vs Q E j e=>?_;obtain ⟨t,h,q⟩:=c b A a s H vs Q E j e;exact ⟨t,h.nox,q⟩
theorem Fun.binds (F:Fun K x qual st f fd)
  (h:∀ (kV b d:Value) (c:Option Addr) (a ct:Value) (us:List Value),us.length=ps.length->bindArgs (PySem.W.fnOf x qual (qah st) (zt st) (qg st) .none kV b d c a ct) ⟨us,[]⟩=pure (ps.zip us)):Binds K fd ps []:=by
 obtain ⟨j,od,kV,b,d,c,a,ct,g,rfl,i,e⟩:=F.ex;exact .all (h kV b d c a ct)
theorem fun_mk {h:Value} {od e:Option Addr} {d:Array (Option Value)} {kV b g a ct:Value} (l:K.lookup f=some ⟨h,od,.func (PySem.W.fnOf x qual (qah st) (zt st) (qg st) .none kV b g e a ct),d⟩)
  (c:PySem.W.codeIn K a qual=true) (k:PySem.W.keepIn K (.ref f)=true):Fun K x qual st f (PySem.W.fnOf x qual (qah st) (zt st) (qg st) .none kV b g e a ct):=⟨⟨h,od,kV,b,g,e,a,ct,d,rfl,l,c⟩,k⟩
end
theorem qi (h:n<=1000):n<sizeLine:=Yo h (by decide)
section
variable {X:Cx}
theorem pv (i:Nat) {b:Pos} (c:X.N[i]?=some x:=by rfl) (hv:Vis X.env.scope x:=by first | exact yK rfl | exact XT (yK rfl) | exact XT (XT rfl)) (d:(x==("__debug__":Str))=false:=by decide)
  (a:(x==("__classdict__":Str))=false:=by decide):PE X (.Name x b) (qf4 i):=pe_var c hv d a
theorem call_lenD:zm X (.builtin "len") (fun xs H Q=>∃ a kvs,xs=[V.ref a]/\H a=some (.dK kvs)/\Q (.int kvs.length) H):=by
 intro b s f H xs us Q I r h;obtain ⟨a,kvs,rfl,d,q⟩:=h;obtain ⟨u,rfl,e⟩:=qaO r;cases e;exact d_len I (.inl d) fun t s' c=>⟨.int kvs.length,H,c,⟨t,rfl⟩,q⟩
end
theorem qag (h:A):if true=true then A else B:=by
 rw [yF rfl];exact h
theorem qQ {c:Prop} [Decidable c] (h1:c->A) (a:¬ c->B):if c then A else B:=by
 by_cases h:c
 ·rw [yF h];exact h1 h
 ·rw [yy h];exact a h
def Same (H H':Hp):Prop:=∀ b o,H b=some o->H' b=some o
theorem Same.refl (H:Hp):Same H H:=fun _ _ h=>h
theorem Same.trans {d e:Hp} (a:Same H d) (b:Same d e):Same H e:=fun c o h=>b c o (a c o h)
theorem Same.free (e:Same H H') {l:Addr} (h:H' l=Option.none):H l=Option.none:=by
 cases q:H l with
 | none=>rfl
 | some o =>
  rw [e l o q] at h;cases h
theorem Same.seq {K:yg} {xs:List V} (e:Same H H') (h:SqL K H a xs):SqL K H' a xs:=by
 rcases h with (h | ⟨o,h⟩) | h
 ·exact .inl (.inl (e _ _ h))
 ·exact .inl (.inr ⟨o,e _ _ h⟩)
 ·exact .inr h
section
variable {κ:Type} [DecidableEq κ]
end
end L2
set_option maxHeartbeats 4000000
namespace L2
open PySem PySem.Spec PyProof.Rows
variable {A:Around} {C D a a0 c e f it p:Addr} {E:Value->Shared->Prop} {H H':Hp} {M:Model} {N:List Str} {P prog:Program} {QO:Option Int->Hp->Prop} {R:It->Hp->Prop} {T:String} {X:Cx} {acc:List (Str×Addr)} {b expr:Bool} {dx:Option Addr} {elt iter tg:Expr} {env:Env} {fl t u:Value} {fp zs:List Addr} {g:TG} {h h':Heap} {i j:Int} {ifs:List Expr} {its l us:List Value} {ixs:List Nat} {n nl:Nat} {names:List (Str×NameKind)} {od:Option Obj} {ox:Obj} {pins:List (Addr×Obj)} {pl:Sem Bool} {pos:Pos} {qual x z:Str} {s:Shared} {sc scope:Scope} {sp:Sp} {tc:TT} {te:TE} {tk:Tok} {v y:V} {vs:Array Value} {w:World} {wi:TI} {xs ys:List V} {σ:St}
section
variable {prog:Program} {w:World} {A:Around} {R:Result->Shared->Prop} {s:Shared}
theorem compLoop_own {a:Expr} {it acc:Value} (I:Nat->Shared->Prop)
  (turn:∀ n s,I n s->wpAny (model prog w) A (pyNext it) (fun r e=>match r with
   | none=>R (.ok .next) e
   | some v=>wpAny (model prog w) A (letOwnedTupleGo a it v) (fun _ b=>wpAny (model prog w) A (assign a env v) (fun _ i =>
     wpAny (model prog w) A (forIn ifs true fun c r=>if r=true then do let ok <- isTrue c env (eval c env);pure (ForInStep.yield ok) else pure (ForInStep.yield r)) (fun ok f =>
      if ok=true then wpAny (model prog w) A (eval elt env) (fun x j =>
       wpAny (model prog w) A (call (.builtin "list.append") [acc,x]) (fun _ l=>∃ m,m<n/\I m l) (fun _ _=>False) j) (fun _ _=>False) f
      else ∃ m,m<n/\I m f) (fun _ _=>False) i) (fun _ _=>False) b) (fun _ _=>False) e) (fun _ _=>False) s)
  (n:Nat) (h:I n s) :
  codeAny (model prog w) A (.compLoop (.ListComp elt [⟨a,iter,ifs,0⟩] scope pos) 0 it acc env) R s:=by
 refine codeAny_loop rfl I (fun n s t=>?_) n h;show wpAny _ A ((compTurn (.ListComp elt [⟨a,iter,ifs,0⟩] scope pos) 0 it acc env).onRaise (fun x=>do noteFrame x env;theTreesLotGoes x)) _ _ s;refine wpAny_noted ?_;rw [compTurn_list];refine yr (Xh (yr (YF (turn n s t) (fun r e h1=>?_) fun _ _ h'=>h'.elim)))
 cases r with
 | none=>exact yw h1
 | some v =>
  refine yr (YF h1 (fun _ b d=>?_) fun _ _ h'=>h'.elim);refine yr (YF d (fun _ i o=>yr (YF o (fun ok f g=>?_) fun _ _ h'=>h'.elim)) fun _ _ h'=>h'.elim)
  cases ok with
  | false=>exact yw ⟨rfl,g⟩
  | true =>
   exact yr (yr (YF g (fun x j p=>yr (YF p (fun _ l q=>yw (yw ⟨rfl,q⟩)) fun _ _ h'=>h'.elim)) fun _ _ h'=>h'.elim))
end
noncomputable def qK (env:Env):List (Str×NameKind)->List (Str×Addr)->List (Str×Addr)
 | [],acc=>acc
 | (n,k)::r,acc=>qK env r (if (k==.free)=true then (n,(env.cells.lookup n).getD 0)::acc else acc)
theorem zu:∀ {names:List (Str×NameKind)} {acc:List (Str×Addr)} {x:Str} {c:Addr},(qK env names acc).lookup x=some c ->
  ((x,NameKind.free)∈names/\c=(env.cells.lookup x).getD 0)\/acc.lookup x=some c
 | [],_,_,_,h=>.inr h
 | (n,k)::r,acc,x,c,h=>by
  unfold qK at h;rcases zu h with ⟨h1,f⟩ | h1
  ·exact .inl ⟨yz _ h1,f⟩
  ·by_cases a:(k==NameKind.free)=true
   ·rw [yF a,xi] at h1
    cases b:x==n with
    | true =>
     rw [b] at h1;have e:x=n:=Yk.mp b;have d:k=.free:=Yk.mp a;subst e d;exact .inl ⟨yN,(ym h1).symm⟩
    | false =>
     rw [b] at h1;exact .inr h1
   ·rw [yy a] at h1;exact .inr h1
theorem qar:∀ {names:List (Str×NameKind)} {acc:List (Str×Addr)} {x:Str},(∃ c,acc.lookup x=some c)->∃ c,(qK env names acc).lookup x=some c
 | [],_,_,h=>h
 | (n,k)::r,acc,x,h=>by
  unfold qK;apply qar;by_cases a:(k==NameKind.free)=true
  ·rw [yF a,xi]
   cases b:x==n with
   | true=>exact ⟨_,rfl⟩
   | false=>exact h
  ·rw [yy a];exact h
theorem zv:∀ {names:List (Str×NameKind)} {acc:List (Str×Addr)} {x:Str},(x,NameKind.free)∈names->∃ c,(qK env names acc).lookup x=some c
 | [],_,_,h=>by cases h
 | (n,k)::r,acc,x,h=>by
  unfold qK;rcases yv.mp h with e | e
  ·cases e;apply qar;rw [show (NameKind.free==NameKind.free)=true from rfl,yF rfl,xi,xv];exact ⟨_,rfl⟩
  ·exact zv e
theorem qas (h:∀ n,(n,NameKind.free)∈scope.names->∃ c,env.cells.lookup n=some c):closureFor scope env=pure (qK env scope.names []):=by
 have f:∀ (names:List (Str×NameKind)) (acc:List (Str×Addr)),(∀ n,(n,NameKind.free)∈names->∃ c,env.cells.lookup n=some c) ->
   (forIn names acc (fun (x:Str×NameKind) (r:List (Str×Addr))=>(if (x.2==NameKind.free)=true then (cellOf env x.1>>=fun c=>pure (ForInStep.yield ((x.1,c)::r))) else pure (ForInStep.yield r):Sem (ForInStep (List (Str×Addr))))))=(pure (qK env names acc):Sem (List (Str×Addr))):=by
  intro names
  induction names with
  | nil=>intro acc _;rfl
  | cons x r ih =>
   intro acc d;obtain ⟨n,k⟩:=x;rw [k9];unfold qK;by_cases a:(k==NameKind.free)=true
   ·have g:k=.free:=Yk.mp a;subst g;obtain ⟨c,hc⟩:=d n yN;have i:cellOf env n=pure c:=by unfold cellOf;rw [hc]
    simp only [a,Xz,i,hc,Option.getD_some];exact ih _ fun m b=>d m (yz _ b)
   ·simp only [a,Xc];exact ih _ fun m b=>d m (yz _ b)
 have e:=f scope.names [] h;unfold closureFor;exact Eq.trans (congrArg (fun m=>m>>=pure) e) rfl
@[reducible] noncomputable def Cx.comp (X:Cx) (N:List Str) (scope:Scope) (C:Addr) (s0:Shared) (H0:Hp) (ex:List Addr):Cx where
 prog:=X.prog
 w:=X.w
 K:=X.K
 mg:=X.mg
 base:=X.base
 A:=X.A
 N:=N
 s₀:=s0
 H₀:=H0
 env:=compEnvC scope (cellsFrom (C+1) scope.names (qK X.env scope.names [])) C X.env
 outer:=X.stack
 stack:=X.stack
 ex:=ex
 fn:=fun x=>scope.names.lookup x==some NameKind.cell
 calm:=X.calm
 pn:=[]
 xe:=fun _ _=>False
theorem jo:∀ (names:List (Str×NameKind)) (n:Nat) (acc:List (Str×Addr)),cellsFrom n names acc=cellsFrom n names []++acc
 | [],_,_=>rfl
 | (m,k)::r,n,acc=>by
  unfold cellsFrom;split
  ·rw [jo r (n+1) ((m,n)::acc),jo r (n+1) [(m,n)],Ym];rfl
  ·exact jo r n acc
theorem qat:∀ {names:List (Str×NameKind)} {n:Nat} {x:Str},(x,NameKind.cell)∈names->∃ c,(cellsFrom n names []).lookup x=some c
 | (m,k)::r,n,x,h=>by
  unfold cellsFrom;rcases yv.mp h with e | e
  ·cases e;rw [yF (show (NameKind.cell==NameKind.cell)=true from rfl),jo,xx]
   cases q:(cellsFrom (n+1) r []).lookup m with
   | some c=>exact ⟨c,rfl⟩
   | none=>exact ⟨n,by show List.lookup m [(m,n)]=some n;rw [xi,xv]⟩
  ·split
   ·rw [jo,xx];obtain ⟨c,hc⟩:=qat (n:=n+1) e;exact ⟨c,by rw [hc];rfl⟩
   ·exact qat e
theorem qbg:∀ {names:List (Str×NameKind)} {n:Nat} {x:Str} {c:Addr},(x,c)∈cellsFrom n names []->(x,NameKind.cell)∈names
 | (m,k)::r,n,x,c,h=>by
  unfold cellsFrom at h;split at h
  ·rename_i hk
   rw [jo] at h;rcases yD.mp h with z | z
   ·exact yz _ (qbg z)
   ·have e:(x,c)=(m,n):=yA.mp z;cases e;rw [Yk.mp hk];exact yN
  ·exact yz _ (qbg h)
theorem qbh (h:(cellsFrom n names acc).lookup x=some c):(x,c)∈cellsFrom n names []\/acc.lookup x=some c:=by
 rw [jo,xx] at h
 cases e:(cellsFrom n names []).lookup x with
 | some d=>rw [e] at h;cases h;exact .inl (mem_of_lookup e)
 | none=>rw [e] at h;exact .inr h
theorem cells_some (h:(x,NameKind.cell)∈names\/∃ c,acc.lookup x=some c):∃ c,(cellsFrom n names acc).lookup x=some c:=by
 rw [jo,xx]
 cases e:(cellsFrom n names []).lookup x with
 | some d=>exact ⟨d,rfl⟩
 | none =>
  rcases h with z | ⟨c,hc⟩
  ·obtain ⟨d,a⟩:=qat (n:=n) z;rw [e] at a;cases a
  ·exact ⟨c,hc⟩
section
variable {M:Model} {A:Around} {E:Value->Shared->Prop} {s:Shared}
theorem newEnvK {c:Addr} {b:List (Str×Addr)} {f:Option Addr} {e:Value} {d:Env} {a:Addr} {Q:Env->Shared->Prop}
  (i:Q (newEnv scope s.heap.objs.size c (cellsFrom (s.heap.objs.size+1) scope.names b) qual f e (some d) a) { s with heap:=pushCells (s.heap.push { cls:=.type "dict",data:=.dict #[] }) scope.names }) :
  wpAny M A (newFunctionEnv scope c b [] qual f e (some d) a) Q E s:=by
 simp only [newFunctionEnv,XE,Xz];refine yr (wpAny_alloc ?_);refine yr (wpAny_layCells _ (fun name kind g=>by cases h:kind==NameKind.cell<;>simp [h]) _ _ _ _ ?_);rw [show ({ s with heap:=s.heap.push { cls:=.type "dict",data:=.dict #[] } }:Shared).heap.objs.size=s.heap.objs.size+1 from YU ..];rw [Kd];exact yr (yw (yw i))
end
structure CompOk (sc scope:Scope):Prop where
 kind:scope.kind=.function
 cel:∀ y∈scope.names,y.2=.cell->scope.names.lookup y.1=some .cell
 loc:∀ y∈scope.names,y.2=.local->scope.names.lookup y.1=some .local
 free:∀ y∈scope.names,y.2=.free->sc.names.lookup y.1=some .cell\/sc.names.lookup y.1=some .free
 once:∀ y∈scope.names,y.2=.free->scope.names.lookup y.1=some .free
noncomputable def qcr (sc scope:Scope):Bool:=decide (scope.kind=.function)&&scope.names.all fun y=>match y.2 with
 | .local=>scope.names.lookup y.1==some .local
 | .free=>(sc.names.lookup y.1==some .cell||sc.names.lookup y.1==some .free)&&scope.names.lookup y.1==some .free
 | .cell=>scope.names.lookup y.1==some .cell
 | _=>true
theorem qdd (h:qcr sc scope=true):CompOk sc scope:=by
 unfold qcr at h;rw [yX] at h;have b:=Yz.mp h.2;refine ⟨yk h.1,fun y a e=>?_,fun y a e=>?_,fun y a e=>?_,fun y a e=>?_⟩
 ·have:=b y a;rw [e] at this;exact Yk.mp this
 ·have:=b y a;rw [e] at this;exact Yk.mp this
 ·have:=b y a;rw [e,yX,XA] at this;exact this.1.imp Yk.mp Yk.mp
 ·have:=b y a;rw [e,yX] at this;exact Yk.mp this.2
noncomputable def qf0 (nl:Nat) (ixs:List Nat) (N XN:List Str) (names:List (Str×NameKind)):Bool:=(List.range ixs.length).all fun k=>match ixs[k]?,N[nl+k]? with
 | some j,some x=>XN[j]?==some x&&names.any fun y=>y.1==x&&y.2==.free
 | _,_=>true
theorem qd0 {XN:List Str} (h:qf0 nl ixs N XN names=true) (k j:Nat) (x:Str) (h1:ixs[k]?=some j) (c:N[nl+k]?=some x):XN[j]?=some x/\(x,NameKind.free)∈names:=by
 have d:k<ixs.length:=(yc.mp h1).1;have:=Yz.mp h k (YT.mpr d);rw [h1,c] at this;simp only [yX] at this;refine ⟨Yk.mp this.1,?_⟩;obtain ⟨⟨n,g⟩,f,e⟩:=YZ.mp this.2;rw [yX] at e;have a:n=x:=Yk.mp e.1;have b:g=.free:=Yk.mp e.2;subst a b;exact f
noncomputable def qdJ (nl:Nat) (ixs:List Nat) (σ:St):St:=List.replicate nl none++ixs.map fun j=>(σ[j]?).getD none
theorem capS_len (nl:Nat) (ixs:List Nat) (σ:St):(qdJ nl ixs σ).length=nl+ixs.length:=by
 unfold qdJ;rw [yt,YN,ya]
theorem qde {i:Nat} (h:(qdJ nl ixs σ)[i]?=some (some v)):nl<=i/\∃ j,ixs[i-nl]?=some j/\σ[j]?=some (some v):=by
 unfold qdJ at h;by_cases a:i<nl
 ·rw [yZ (by rw [YN];exact a),xO] at h;split at h<;>cases h
 ·rw [yJ (by rw [YN];omega),YN,yd] at h;refine ⟨by omega,?_⟩
  cases e:ixs[i-nl]? with
  | none=>rw [e] at h;cases h
  | some j =>
   rw [e] at h;have h':(σ[j]?).getD none=some v:=ym h
   cases q:σ[j]? with
   | none=>rw [q] at h';cases h'
   | some u =>
    rw [q] at h';exact ⟨j,rfl,by rw [q];exact congrArg some h'⟩
noncomputable def qeD (env:Env) (y:Str×NameKind):Str×NameKind:=if (y.2==NameKind.free&&env.scope.kind==.function&&env.kindOf y.1==some .cell)=true then (y.1,NameKind.cell) else (y.1,y.2)
theorem relF_fst (env:Env) (y:Str×NameKind):(qeD env y).1=y.1:=by unfold qeD;split<;>rfl
theorem relF_snd (env:Env) (y:Str×NameKind):(qeD env y).2=y.2\/((qeD env y).2=.cell/\y.2=.free):=by
 unfold qeD;split
 ·rename_i h
  rw [yX,yX] at h;exact .inr ⟨rfl,Yk.mp h.1.1⟩
 ·exact .inl rfl
theorem ze:∀ {names:List (Str×NameKind)} {x:Str} {k:NameKind},(names.map (qeD env)).lookup x=some k->∃ b,names.lookup x=some b/\(x,b)∈names/\(k=b\/(k=.cell/\b=.free))
 | [],_,_,h=>by cases h
 | (n,k1)::r,x,k,h=>by
  rw [YG,show qeD env (n,k1)=((qeD env (n,k1)).1,(qeD env (n,k1)).2) from rfl,xi,relF_fst] at h;rw [xi]
  cases c:x==n with
  | true =>
   have e:x=n:=Yk.mp c;subst e;have a:(x==(x,k1).1)=true:=c;rw [a] at h;have h':=ym h;refine ⟨k1,rfl,yN,?_⟩;rcases relF_snd env (x,k1) with z | ⟨z1,z2⟩
   ·exact .inl (h'.symm.trans z)
   ·exact .inr ⟨h'.symm.trans z1,z2⟩
  | false =>
   have a:(x==(n,k1).1)=false:=c;rw [a] at h;obtain ⟨b,d,f,g⟩:=ze h;exact ⟨b,d,yz _ f,g⟩
section
variable {X:Cx} {pins:List (Addr×Obj)} {σ:St} {H:Hp} {s:Shared}
theorem comp_free_of {b:List (Str×Addr)} (h:(compEnvC scope b C X.env).kindOf x=some .cell\/(compEnvC scope b C X.env).kindOf x=some .free):(x,NameKind.cell)∈scope.names\/(x,NameKind.free)∈scope.names:=by
 rcases h with h | h
 ·obtain ⟨c,_,a,e | ⟨_,e⟩⟩:=ze (env:=X.env) (names:=scope.names) h
  ·rw [<- e] at a;exact .inl a
  ·rw [e] at a;exact .inr a
 ·obtain ⟨c,_,a,e | ⟨e,_⟩⟩:=ze (env:=X.env) (names:=scope.names) h
  ·rw [<- e] at a;exact .inr a
  ·cases e
theorem Inv.comp {T:Obj} {h1:Heap} {tk:Nat} (I:Inv X pins σ H s) (O:CompOk X.env.scope scope)
  (hN:N.length=nl+ixs.length) (J:∀ (k j:Nat) (x:Str),ixs[k]?=some j->N[nl+k]?=some x->X.N[j]?=some x/\(x,NameKind.free)∈scope.names)
  (R:∀ b∈fp,qcJ X pins H b) (K:∀ b∈fp,b<s.heap.objs.size) (M:s.heap.objs.size<=C) (Y:s.heap.objs.size<=D) (Z:D≠C) (ad:h1.Ns C fun _=>none) (k:∀ b o,s.heap.get? b=some o->h1.get? b=some o)
  (ae:h1.get? D=some T) (ab:∀ v,T.data≠.cell v) (E:CellsOk h1 (C+1) (cellsFrom (C+1) scope.names [])):Inv (X.comp N scope C s H fp) [(D,T)] (qdJ nl ixs σ) H { s with heap:=h1,toks:=tk }:=by
 have a:∀ x c,(qK X.env scope.names []).lookup x=some c->X.env.cells.lookup x=some c/\(x,NameKind.free)∈scope.names:=fun x c h=>by
  rcases zu h with ⟨h1,L⟩ | h1
  ·obtain ⟨G,l⟩:=I.ok.has x (by
    rcases O.free _ h1 rfl with z | z
    ·exact .inl z
    ·exact .inr z)
   rw [l] at L;exact ⟨by rw [l,L];rfl,h1⟩
  ·cases h1
 have big:∀ c:Addr,C+1<=c->s.heap.objs.size<=c:=fun c h=>yi M (Nat.le_of_succ_le h);have S:∀ {P:Prop} {c:Addr},C+1<=c->c<s.heap.objs.size->P:=fun h g=>absurd (yj g (big _ h)) (Yy _)
 have all:∀ x c,(cellsFrom (C+1) scope.names (qK X.env scope.names [])).lookup x=some c->((x,c)∈cellsFrom (C+1) scope.names []/\C+1<=c/\h1.IsCell c none)\/(X.env.cells.lookup x=some c/\c<s.heap.objs.size):=fun x c h=>by
  rcases qbh h with z | z
  ·exact .inl ⟨z,(E.empty _ _ z).2,(E.empty _ _ z).1⟩
  ·obtain ⟨_,q⟩:=I.cell x c (a x c z).1;exact .inr ⟨(a x c z).1,q.lt⟩
 refine ⟨⟨I.ok.mod,O.kind,I.ok.glob,I.ok.blt,M,fun x y c h1 L=>?inj,fun x hx=>cells_some ((comp_free_of hx).imp id zv),fun x c z h=>?cab,I.ok.hd,I.ok.frames,.inl rfl,
   fun b w=>⟨yI (yj (K b w) M),fun x c e=>?exf⟩,I.bs,yi I.ok.bsz I.sz,fun b o e w=>?_,fun b w z=>?_,I.stack,I.stkFree⟩,
  rfl,I.bare,Un.kept k,⟨_,ad,fun i x v e1 e2 e3=>?_⟩,fun x c e=>?_,I.hok.fresh M,fun x c e=>?fre,fun p hp=>?_,I.hok.kept k,?_⟩
 case inj =>
  rcases all x c h1 with ⟨r,f,_⟩ | ⟨r,f⟩<;>rcases all y c L with ⟨U,W,_⟩ | ⟨U,W⟩
  ·exact name_of_addr E.apart r U
  ·exact S f W
  ·exact S W f
  ·exact I.ok.inj x y c r U
 case cab =>
  rcases all x c h with ⟨_,f,_⟩ | ⟨r,f⟩
  ·exact big _ f
  ·exfalso;obtain ⟨d,F⟩:=qat (n:=C+1) (mem_of_lookup (Yk.mp z));have h:(cellsFrom (C+1) scope.names (qK X.env scope.names [])).lookup x=some c:=h;rw [jo,xx,F] at h;cases h;exact S (E.empty _ _ (mem_of_lookup F)).2 f
 case exf =>
  rcases all x c e with ⟨_,f,_⟩ | ⟨r,_⟩
  ·exact fun z=>S f (by rw [z];exact K b w)
  ·exact (R b w).2.2.2.2.1 x c r
 case fre =>
  rcases all x c e with ⟨_,f,_⟩ | ⟨r,_⟩
  ·exact I.hok.fresh (big _ f)
  ·exact I.freeC x c r
 ·rcases (R b w).2.2.2.1 with z | z
  ·exact I.ok.noex b o e z
  ·have:=(I.ok.bs b o e).1;exact absurd (yj (yH this) z) (Yy _)
 ·rcases yv.mp (I.stkSub b z) with e | e
  ·exact (R b w).2.1 e
  ·exact (R b w).2.2.1 e
 ·obtain ⟨hi,j,hj,hv⟩:=qde e2;obtain ⟨hx,t⟩:=J (i-nl) j x hj (by rw [Nat.add_sub_cancel' hi];exact e1);obtain ⟨m,hn,hl⟩:=I.loc;have E:=O.free _ t rfl
  obtain ⟨u,ru,lk⟩:=hl j x v hx hv (by
   rcases E with z | z
   ·exact .inr (.inl z)
   ·exact .inr (.inr z))
  refine ⟨u,ru,?_⟩;rcases lk with ⟨ac,_⟩ | ⟨_,c,hc,B⟩
  ·have A:X.env.scope.names.lookup x=some .local:=ac;rcases E with z | z<;>· rw [z] at A;cases A
  ·obtain ⟨G,l⟩:=zv (env:=X.env) (acc:=[]) t
   have e:G=c:=by
    have:=(a x G l).1;rw [hc] at this;exact (ym this).symm
   subst e
   have aa:(cellsFrom (C+1) scope.names (qK X.env scope.names [])).lookup x=some G:=by
    rw [jo,xx]
    cases q:(cellsFrom (C+1) scope.names []).lookup x with
    | none=>exact l
    | some d=>have:=O.cel _ (qbg (mem_of_lookup q)) rfl;rw [O.once _ t rfl] at this;cases this
   refine .inr ⟨?_,G,aa,?_⟩
   ·rcases e3 with z | z | z
    ·obtain ⟨k0,z3,_,e | ⟨e,_⟩⟩:=ze (env:=X.env) (names:=scope.names) z
     ·rw [O.once _ t rfl] at z3;cases z3;cases e
     ·cases e
    ·exact .inl z
    ·exact .inr z
   ·obtain ⟨o,ho,F⟩:=B;exact ⟨o,k _ _ ho,F⟩
 ·rcases all x c e with ⟨_,_,a3⟩ | ⟨r,_⟩
  ·exact ⟨none,a3⟩
  ·obtain ⟨v,o,ho,F⟩:=I.cell x c r;exact ⟨v,o,k _ _ ho,F⟩
 ·have e:p=(D,T):=by simpa using hp
  subst e;refine ⟨ae,I.hok.fresh Y,Z,fun z=>?_,ab⟩;rcases yv.mp (I.stkSub D z) with e | e
  ·exact absurd (show X.env.locals<D from yj I.lt Y) (by rw [e];exact Yy _)
  ·exact I.nofs Y e
 ·show (qdJ nl ixs σ).length=N.length;rw [capS_len,hN]
theorem Inv.compBack {s':Shared} {j:St} (I:Inv X pins σ H s) (h:∀ b∈fp,qcJ X pins H b) (w:s.heap.objs.size<=C) (l:s.heap.objs.size<=D)
  (J:Inv (X.comp N scope C s H fp) [(D,{ cls:=.type "list",data:=.seq its.toArray n })] j H' s') (hv:Vals ys its) (hz:ys.length<=sizeLine):Inv X pins σ (upd H' D (.lst ys)) s':=by
 obtain ⟨r,g,p,_,_⟩:=J.pin (D,{ cls:=.type "list",data:=.seq its.toArray n }) (yL _ (yA.mpr rfl));have i:∀ b o,s.heap.get? b=some o->b≠D:=fun b o e=>yI (yj (yH e) l);have a:=J.base;refine I.call' (ch:=fp) J.os ⟨a.keep,a.slot,fun b o e n m=>?_,a.there,fun b xs e=>?_,fun b o u e=>?_,fun b t e=>?_⟩ (fun b u e=>?_) J.bare fun b d=>⟨(h b d).2.2.2.1,(h b d).2.1,(h b d).2.2.2.2.1,(h b d).2.2.2.2.2⟩
 ·rw [qf (i b o e)];exact a.free b o e n m
 ·have q:=a.tups b xs e;rw [qf (qH q g)];exact q
 ·have q:=a.frzs b o u e;rw [qf (qH q g)];exact q
 ·obtain ⟨f,q⟩:=a.tbls b t e;exact ⟨f,by rw [qf (qH q g)];exact q⟩
 ·by_cases d:b=D
  ·subst d;rw [qb] at e;cases e;exact ⟨hz,its,n,hv,r⟩
  ·rw [qf d] at e;exact (J.hok b u e).stay (fun c v _ q=>q) (fun c q=>by rw [qf (qH q g)];exact q) fun c xs q=>by rw [qf (qH q g)];exact q
end
def qgx:TT:=fun _ H Q=>Q true H
def qeE (wi:TI) (g:TG) (tc:TT) (te:TE) (nl:Nat) (ixs:List Nat):TE:=fun σ H Q=>wi σ H fun J e =>
 ∃ W:Nat->Nat->List V->Hp->Prop,(∃ m,W 0 m [] e)/\∀ i m ys H,W i m ys H ->
  (J.stop i H/\ys.length<=sizeLine/\∀ p,H p=none->Q (.ref p) (upd H p (.lst ys))) \/
  (J.go i H/\∃ M:List V->Hp->Prop,(∀ ys' H',M ys' H'->∃ d,d<m/\W (i+1) d ys' H')/\∀ x H',J.yld i H x H'->g x (qdJ nl ixs σ) H' fun a f=>tc a f fun b c =>
   if b=true then te a c fun v h=>ys.length<sizeLine/\M (ys++[v]) h else M ys c)
def qdC (nl:Nat) (g:TG):Prop:=∀ x σ H Q,g x σ H Q->g x σ H fun a b=>Q a b/\a.length=σ.length/\∀ i,nl<=i->a[i]?=σ[i]?
theorem jc {i:Nat} (h:i<nl:=by decide):qdC nl (qbR i):=fun x σ H Q q=>⟨q,xD ..,fun j a=>xl (by omega)⟩
def qfu (X:Cx) (ifs:List Expr) (tc:TT):Prop:=
 ∀ (pins:List (Addr×Obj)) (s:Shared) (σ:St) (H:Hp) (Q:Bool->Hp->Prop),Inv X pins σ H s->tc σ H Q ->
  wpAny (model X.prog X.w) X.A (forIn ifs true fun c r=>if r=true then do let ok <- isTrue c X.env (eval c X.env);pure (ForInStep.yield ok) else pure (ForInStep.yield r)) (TP X pins σ Q) X.xe s
theorem zf:qfu X [] qgx:=fun pins s σ H Q I h=>wpAny_tests_nil ⟨H,I,h⟩
theorem jr {c:Expr} (h:PT X c tc):qfu X [c] tc:=fun pins s σ H Q I q=>wpAny_tests_one (h pins s σ H Q I q)
section
variable {X:Cx} {pins:List (Addr×Obj)} {σ:St} {H:Hp} {s:Shared}
theorem qbG {tn:Nat->Heap->Prop} {J:It} {Q:V->Hp->Prop}
  {RR:Value->Addr->Result->Shared->Prop} (I:Inv X pins σ H s) (hc:X.calm=true) (O:CompOk X.env.scope scope)
  (hN:N.length=nl+ixs.length) (ai:∀ (k j:Nat) (x:Str),ixs[k]?=some j->N[nl+k]?=some x->X.N[j]?=some x/\(x,NameKind.free)∈scope.names)
  (T:Turn X.prog X.w X.K tg J fp it tn) (st:tn 0 s.heap) (hf:∀ b∈fp,qcJ X pins H b)
  (hg:∀ C s0 H0 ex,PG (X.comp N scope C s0 H0 ex) tg g) (gk:qdC nl g) (hi:∀ C s0 H0 ex,qfu (X.comp N scope C s0 H0 ex) ifs tc) (he:∀ C s0 H0 ex,PE (X.comp N scope C s0 H0 ex) elt te)
  (h:∃ W:Nat->Nat->List V->Hp->Prop,(∃ m,W 0 m [] H)/\∀ i m ys H,W i m ys H ->
   (J.stop i H/\ys.length<=sizeLine/\∀ p,H p=none->Q (.ref p) (upd H p (.lst ys))) \/
   (J.go i H/\∃ M:List V->Hp->Prop,(∀ ys' H',M ys' H'->∃ m',m'<m/\W (i+1) m' ys' H')/\∀ x H',J.yld i H x H'->g x (qdJ nl ixs σ) H' fun ao a=>tc ao a fun b H3 =>
    if b=true then te ao H3 fun v H4=>ys.length<sizeLine/\M (ys++[v]) H4 else M ys H3))
  (av:∀ (D C:Addr) (s':Shared) (H':Hp) (R:St) (ys:List V) (its:List Value) (n:Nat),s.heap.objs.size<=C->s.heap.objs.size<=D->Inv (X.comp N scope C s H fp) [(D,{ cls:=.type "list",data:=.seq its.toArray n })] R H' s'->Vals ys its->ys.length<=sizeLine ->
   (∀ p,H' p=none->Q (.ref p) (upd H' p (.lst ys)))->RR (.ref D) C (.ok .next) s') :
  wpAny (model X.prog X.w) X.A (newList []) (fun acc s3=>wpAny (model X.prog X.w) X.A (newFunctionEnv scope X.env.globals (qK X.env scope.names []) [] X.env.qual none .none (some X.env)) (fun U s4 =>
   codeAny (model X.prog X.w) X.A (.compStart (.ListComp elt [⟨tg,iter,ifs,0⟩] scope pos) 0 (.ref it) acc { U with scope:=relabel scope X.env }) (RR acc U.locals) s4) E s3) E s:=by
 obtain ⟨W,⟨m0,w0⟩,turn⟩:=h;refine xH (newEnvK ?_);dsimp only;generalize ab:s.heap.push { cls:=.type "list",dict:=none,data:=.seq ([]:List Value).toArray }=a;have Z:(pushCells (a.push { cls:=.type "dict",data:=.dict #[] }) scope.names).Ns a.objs.size fun _=>none:=(Heap.Ns.new a (.type "dict")).keeps (pushCells_keeps _ _);have F:=cellsFrom_ok scope.names (a.push { cls:=.type "dict",data:=.dict #[] }) (a.objs.size+1) [] ⟨fun _ _ hm=>(nomatch hm),List.Pairwise.nil⟩ (by rw [YU];exact yh _);rw [YU] at F;have ac:∀ b o,a.get? b=some o->(pushCells (a.push { cls:=.type "dict",data:=.dict #[] }) scope.names).get? b=some o:=fun b o e=>pushCells_keeps _ _ b o (yu _ e);generalize pushCells (a.push { cls:=.type "dict",data:=.dict #[] }) scope.names=h1 at Z F ac ⊢;have hC:a.objs.size=s.heap.objs.size+1:=by rw [<- ab,YU]
 have au:s.heap.objs.size≠a.objs.size:=by rw [hC];exact yI (X7 _)
 have Y:s.heap.objs.size<=a.objs.size:=by rw [hC];exact Xo _
 have l:∀ b,b<s.heap.objs.size->b≠a.objs.size/\b≠s.heap.objs.size:=fun b f=>⟨by rw [hC];exact yI (Nat.lt_succ_of_lt f),yI f⟩;have ad:∀ b o,s.heap.get? b=some o->h1.get? b=some o:=fun b o e=>ac b o (ab ▸ yu _ e);have ag:h1.get? s.heap.objs.size=some { cls:=.type "list",data:=.seq ([]:List Value).toArray }:=ac _ _ (ab ▸ yV _ rfl)
 have B:∀ b∈fp,b<s.heap.objs.size:=fun b f=>by
  obtain ⟨o,ho,_⟩:=T.obj 0 _ st b f;exact yH ho
 have aa:∀ s3:Shared,s3={ s with heap:=h1 } ->
   codeAny (model X.prog X.w) X.A (.compLoop (.ListComp elt [⟨tg,iter,ifs,0⟩] scope pos) 0 (.ref it) (.ref s.heap.objs.size) (compEnvC scope (cellsFrom (a.objs.size+1) scope.names (qK X.env scope.names [])) a.objs.size X.env)) (RR (.ref s.heap.objs.size) a.objs.size) s3:=by
  rintro s3 rfl;have I0:=I.comp (N:=N) (C:=a.objs.size) (D:=s.heap.objs.size) (h1:=h1) (tk:=s.toks) O hN ai hf B Y (yh _) au Z ad ag (fun v z=>by cases z) F
  have t:∀ {H':Hp} {R:St} {s':Shared} {pl:List (Addr×Obj)},Inv (X.comp N scope a.objs.size s H fp) pl R H' s'->(∀ p∈pl,p.1=s.heap.objs.size)->(∀ b∈fp,H' b=none)->∀ b∈fp,qcJ (X.comp N scope a.objs.size s H fp) pl H' b:=fun {H' R s' pl} J ax hn b f =>
   ⟨hn b f,(l b (B b f)).1,fun z=>(by
     rcases yv.mp (I.stkSub b z) with e | e
     ·exact (hf b f).2.1 e
     ·exact (hf b f).2.2.1 e),.inl f,J.ok.exf b f |>.2,fun p L z=>by
    have e:=ax p (by simpa using L);rw [e] at z;exact (l b (B b f)).2 z.symm⟩
  refine compLoop_own (fun k s'=>∃ i H' ys its n,Inv (X.comp N scope a.objs.size s H fp) [(s.heap.objs.size,{ cls:=.type "list",data:=.seq its.toArray n })] (qdJ nl ixs σ) H' s'/\tn i s'.heap/\(∀ b∈fp,H' b=none)/\Vals ys its/\W i k ys H') ?_ m0
   ⟨0,H,[],[],0,I0,T.keep _ _ _ st fun b _ o e=>ad b o e,fun b f=>(hf b f).1,.nil,w0⟩
  rintro k s' ⟨i,H',ys,its,n,J1,am,af,v1,w1⟩
  have one:∀ p∈[((s.heap.objs.size,{ cls:=.type "list",data:=.seq its.toArray n }):Addr×Obj)],p.1=s.heap.objs.size:=fun p L=>by
   have e:p=_:=yA.mp L;rw [e]
  rcases turn i k ys H' w1 with ⟨an,hz,q⟩ | ⟨go,M,hM,step⟩
  ·refine thn (T.done (X.comp N scope a.objs.size s H fp) rfl rfl rfl hc i _ s' _ H' _ J1 (t J1 one af) am an) fun r s4 ⟨hr,J4⟩=>?_;subst hr;exact av _ _ s4 H' _ ys its n Y (yh _) J4 v1 hz q
  ·refine thn (T.item (X.comp N scope a.objs.size s H fp) rfl rfl rfl hc i _ s' _ H' _ J1 (t J1 one af) am go) fun r s4 ⟨u,hr,h4⟩=>?_;subst hr;refine thn h4 fun _ s5 ⟨x,H5,J5,r5,y5,ae,aq⟩=>?_;have ap:=J5.pinned (t J5 one aq) (T.obj _ _ ae);refine thn (hg _ _ _ _ _ s5 _ H5 x u _ ap r5 (gk _ _ _ _ (step x H5 y5))) fun _ s6 ⟨S,H6,J6,q6,l6,k6⟩=>?_;refine thn (hi _ _ _ _ _ s6 S H6 _ J6 q6) fun ok s7 ⟨H7,J7,q7⟩=>?_;have again:∀ {P:Shared} {H8:Hp} {ys':List V} {k':Nat},Inv (X.comp N scope a.objs.size s H fp) ([((s.heap.objs.size,{ cls:=.type "list",data:=.seq its.toArray n }):Addr×Obj)]++qcd fp s5.heap) S H8 P ->
     (∀ b o,b≠s.heap.objs.size->P.heap.get? b=some o->P.heap.get? b=some o)->tn (i+1) P.heap/\∀ b∈fp,H8 b=none:=fun {P H8 ys' k'} J8 _=>by
    refine ⟨T.keep _ _ _ ae fun b f o e=>(J8.pin (b,o) (yL _ (yL _ (zU f e)))).1,fun b f=>?_⟩;obtain ⟨o,e,d⟩:=T.obj _ _ ae b f;exact (J8.pin (b,o) (yL _ (yL _ (zU f e)))).2.1
   have wk:∀ (j:Nat) v,(qdJ nl ixs σ)[j]?=some (some v)->S[j]?=some (some v):=fun j v e=>by
    obtain ⟨hj,_⟩:=qde e;rw [k6 j hj];exact e
   cases ok with
   | false =>
    rw [yy Yn] at q7 ⊢;obtain ⟨m',hm,w7⟩:=hM _ _ q7;obtain ⟨az,ar⟩:=again (ys':=ys) (k':=0) J7 (fun _ _ _ e=>e);exact ⟨m',hm,i+1,H7,ys,its,n,J7.unpinned.weak l6.symm wk,az,ar,v1,w7⟩
   | true =>
    rw [yF rfl] at q7 ⊢;refine thn (he _ _ _ _ _ s7 S H7 _ J7 q7) fun y P ⟨v,H8,J8,r8,bb,mq⟩=>?_;obtain ⟨m',hm,w8⟩:=hM _ _ mq;obtain ⟨ba,as⟩:=again (ys':=ys) (k':=0) J8 (fun _ _ _ e=>e);have J9:=J8.unpinned;obtain ⟨pD,nD,al,ay,_⟩:=J9.pin (s.heap.objs.size,{ cls:=.type "list",data:=.seq its.toArray n }) (yL _ (yA.mpr rfl));refine wpAny_list_append_plain (hsz:=by rw [yx,<- v1.length];omega) ⟨n,pD⟩ fun h9 G ak=>?_;obtain ⟨n9,G⟩:=G;have e9:(its.toArray.push y)=(its++[y]).toArray:=by simp
    rw [e9] at G
    have Ja:Inv (X.comp N scope a.objs.size s H fp) [] (qdJ nl ixs σ) H8 { P with heap:=h9,toks:=P.toks }:=
     ((J9.pins_of (pins':=[]) fun p L=>absurd L (by simp)).turned (it:=s.heap.objs.size) (h':=h9) (t':=P.toks) (fun b o f e=>(ak.2 b f).trans e) nD al (.inr (yh _))
      (fun x c e z=>by
       rcases qbh e with w | e
       ·have:=(F.empty _ _ w).2;rw [z,hC] at this;exact absurd (yi (Xo _) this) (Nat.not_succ_le_self _)
       have:=zu e;rcases this with ⟨aw,hcc⟩ | hcc
       ·obtain ⟨c',ah⟩:=I.ok.has x (by
         rcases O.free _ aw rfl with q | q
         ·exact .inl q
         ·exact .inr q)
        rw [ah] at hcc;have aj:c=c':=hcc;obtain ⟨_,q⟩:=I.cell x c' ah;rw [<- aj,z] at q;exact absurd q.lt (Yy _)
       ·cases hcc) (fun p L=>absurd L (by simp))).weak l6.symm wk
    refine ⟨m',hm,i+1,H8,ys++[v],its++[y],n9,Ja.pins_of fun p L=>?_,?_,as,v1.append (.cons r8 .nil),w8⟩
    ·have e:p=_:=yA.mp L;subst e;exact ⟨G,nD,al,ay,fun v z=>by cases z⟩
    ·exact T.keep _ _ _ ba fun b f o e=>(ak.2 b (l b (B b f)).2).trans e
 exact codeAny_compStart_list (aa _ rfl) (T.self _ 0 _ _ _ (T.keep _ _ _ st fun b _ o e=>ad b o e) (aa _ rfl))
end
section
variable {X:Cx} {tg elt iter:Expr} {ifs:List Expr} {scope:Scope} {pos:Pos} {N:List Str} {nl:Nat} {ixs:List Nat} {wi:TI} {g:TG} {tc:TT} {te:TE}
theorem ji {XN:List Str} (N:List Str) (nl:Nat) (ixs:List Nat) (F:X.env.scope=sc) (u:X.N=XN) (hc:X.calm=true) (M:qcr sc scope=true) (U:N.length=nl+ixs.length) (d:qf0 nl ixs N XN scope.names=true)
  (hi:PI X tg iter wi) (hg:∀ C r i ex,PG (X.comp N scope C r i ex) tg g) (P:qdC nl g) (ht:∀ C r i ex,qfu (X.comp N scope C r i ex) ifs tc) (Z:∀ C r i ex,PE (X.comp N scope C r i ex) elt te)
  (hs:∀ x,foldedSetIterable iter X.env x=pure x:=by intro _;rfl):PE X (.ListComp elt [⟨tg,iter,ifs,0⟩] scope pos) (qeE wi g tc te nl ixs):=by
 intro pins s σ H Q I h;subst F u;have O:=qdd M;have l:=qd0 d;rw [eval_ListComp]
 have y:=qas (scope:=scope) (env:=X.env) fun n E=>I.ok.has n (by
  rcases O.free _ E rfl with z | z
  ·exact .inl z
  ·exact .inr z)
 refine wpAny_comprehension_free (use:=none) rfl hs y O.kind O.loc (thn (hi pins s σ H _ I h) fun v s1 h1=>thn h1 fun aa s2 R=>?_);obtain ⟨it,fp,tn,J,H2,e,f,T,K,L,W⟩:=R;subst e;refine qbG (Q:=Q) (RR:=fun acc C=>compPost (model X.prog X.w) X.A X.xe none (EP X pins σ Q) acc C) f hc O U l T K L hg P ht Z W ?_;intro D C s' H' ab ys its n j S t hv hz q;obtain ⟨m,E,_⟩:=id t.loc;have B:=f.compBack L j S t hv hz;obtain ⟨_,nD,G,_,_⟩:=t.pin (D,{ cls:=.type "list",data:=.seq its.toArray n }) (yL _ (yA.mpr rfl));refine ⟨m,E,fun h' sb=>⟨.ref D,_,?_,rfl,q D nD⟩⟩;refine B.turned (it:=C) (h':=h') (t':=s'.toks) (fun b o Y e=>(sb.2 b Y).trans e) ((qf (H:=H') (a:=D) (b:=C) (o:=.lst ys) (Yh G)).trans t.free) (Yj (yj f.lt j)) (.inr (yi f.sz j)) (fun x c e z=>?_) (fun p hp z=>?_)
 ·obtain ⟨_,q⟩:=f.cell x c e;exact absurd (yj q.lt (by rw [z];exact j)) (Yy _)
 ·exact absurd (yj (yH (f.pin p hp).1) (by rw [z];exact j)) (Yy _)
theorem qcP {i:Nat} {y:Str} {r f:Pos} {XN:List Str} (N:List Str) (nl:Nat) (ixs:List Nat) (W:X.env.scope=sc) (u:X.N=XN) (hc:X.calm=true) (O':qcr sc scope=true) (hN:N.length=nl+ixs.length) (l:qf0 nl ixs N XN scope.names=true)
  (M:X.N.Nodup) (R:X.N[i]?=some y) (hy:X.env.scope.names.lookup y=some .local)
  (hi:PI X tg iter wi) (hg:∀ C F t ex,PG (X.comp N scope C F t ex) tg g) (gk:qdC nl g) (ht:∀ C F t ex,qfu (X.comp N scope C F t ex) ifs tc) (he:∀ C F t ex,PE (X.comp N scope C F t ex) elt te)
  (Y:swapsWith (.ListComp elt [⟨tg,iter,ifs,0⟩] scope pos) (some (.Name y r)) f.line X.env=pure true:=by rfl)
  (hs:∀ x,foldedSetIterable iter X.env x=pure x:=by intro _;rfl):PS X (.Assign [.Name y r] (.ListComp elt [⟨tg,iter,ifs,0⟩] scope pos) f) (qft (qeE wi g tc te nl ixs) (qbR i)):=by
 intro pins s σ H K I h;subst W u;have O:=qdd O';have E:=qd0 l
 have P:=qas (scope:=scope) (env:=X.env) fun n S=>I.ok.has n (by
  rcases O.free _ S rfl with z | z
  ·exact .inl z
  ·exact .inr z)
 rw [exec_Assign_Name_used _ _ _ _ Y];refine yr (Xh (yr ?_));show wpAny _ X.A (do let _ <- comprehension (.ListComp elt [⟨tg,iter,ifs,0⟩] scope pos) scope X.env _ (newList []) false (eval iter X.env) (some (assign (.Name y r) X.env))) _ _ s;refine yr (YF (wpAny_comprehension_free (use:=some (assign (.Name y r) X.env)) (Q:=fun _ s'=>SP X pins K .next s') rfl hs P O.kind O.loc
  (thn (hi pins s σ H _ I h) fun v s1 h1=>thn h1 fun ac s2 h2=>?_)) (fun _ s' hq=>yw (yw hq)) fun _ _ e=>e)
 obtain ⟨it,fp,tn,J,H2,e,d,T,ab,f2,hW⟩:=h2;subst e;refine qbG (Q:=fun v H'=>qbR i v σ H' K.nx) (RR:=fun acc C=>compPost (model X.prog X.w) X.A X.xe (some (assign (.Name y r) X.env)) (fun _ s'=>SP X pins K .next s') acc C) d hc O hN E T ab f2 hg gk ht he hW ?_;intro D C s' H' ad ys its n j hD G hv hz q;obtain ⟨m,S,_⟩:=id G.loc;have B:=d.compBack f2 j hD G hv hz;obtain ⟨_,nD,Z,_,_⟩:=G.pin (D,{ cls:=.type "list",data:=.seq its.toArray n }) (yL _ (yA.mpr rfl));show wpAny _ X.A (assign (.Name y r) X.env (.ref D)) _ _ _;refine wpAny_assign_Name (qca (i:=i) (x:=y) (v:=.ref D) B M R (.inl hy) rfl (fun aa B' U=>?_) (.inr hy));obtain ⟨a,sa,ha⟩:=U
 have L:C≠a:=by
  rintro rfl;rcases ha with z | z
  ·exact absurd (show X.env.locals<C from yj d.lt j) (by rw [z];exact Yy _)
  ·obtain ⟨_,q⟩:=d.cell y C z;exact absurd (yj q.lt j) (Yy _)
 refine ⟨m,S.sameBut sa L,fun h' sb=>⟨_,_,?_,q D nD⟩⟩;refine B'.turned (it:=C) (h':=h') (t':=aa.toks) (fun b o hb e=>(sb.2 b hb).trans e) ((qf (H:=H') (a:=D) (b:=C) (o:=.lst ys) (Yh Z)).trans G.free) (Yj (yj d.lt j)) (.inr (yi d.sz j)) (fun x c e z=>?_) (fun p hp z=>?_)
 ·obtain ⟨_,q⟩:=d.cell x c e;exact absurd (yj q.lt (by rw [z];exact j)) (Yy _)
 ·exact absurd (yj (yH (d.pin p hp).1) (by rw [z];exact j)) (Yy _)
end
noncomputable def Its (x:Str):It:=⟨fun i _=>i<x.cps.size,fun i H v H'=>H'=H/\∃ c,x.cps[i]?=some c/\v=.str ⟨#[c]⟩,fun i _=>i=x.cps.size⟩
theorem qdf {K:yg} {t:Tok} (W:∀ A:Around,A.handled=none->Walks P w A it [it] [it] x.cps.size (SignAt x) fun i h=>h.IsStrIter it T x t i)
  (L:∀ (A:Around) (i:Nat) (s:Shared) (Q:Value->Shared->Prop) (E:Value->Shared->Prop),s.heap.IsStrIter it T x t i->Q (.ref it) s->wpAny (model P w) A (pyIter (.ref it)) Q E s)
  (C:∀ v,letOwnedTupleGo tg (.ref it) v=pure ()):Turn P w K tg (Its x) [it] it (fun i h=>h.IsStrIter it T x t i) where
 mem:=by simp
 obj:=fun i h st b a=>by
  have e:b=it:=by simpa using a
  subst e;obtain ⟨o,e,c,d⟩:=st;exact ⟨o,e,fun v z=>by rw [d] at z;cases z⟩
 keep:=fun i h h' st k=>by
  obtain ⟨o,e,r⟩:=st;exact ⟨o,k it (by simp) o e,r⟩
 item:=by
  intro X q hw p hc i pins s σ H E I f st B;subst q hw p;obtain ⟨g,j,J,l,m,n⟩:=f it (by simp);refine (W X.A (I.ok.hd hc)).item i s _ _ B st fun v h' tk hv F D=>?_;obtain ⟨c,u,y,rfl⟩:=hv;have G:Inv X pins σ H { s with heap:=h',toks:=tk }:=I.turned (fun b o a e=>D b o (by simpa using a) e) g j l m n;refine ⟨_,rfl,Y8 (C _) ⟨.str ⟨#[c]⟩,H,G,⟨u,rfl⟩,⟨rfl,c,y,rfl⟩,F,fun b a=>(f b a).1⟩⟩
 done:=by
  intro X q hw p hc i pins s σ H E I f st B;subst q hw p;obtain ⟨g,j,J,l,m,n⟩:=f it (by simp);have e:i=x.cps.size:=B;subst e;exact (W X.A (I.ok.hd hc)).done s _ _ st fun h' tk D=>⟨rfl,I.turned (fun b o a e=>D b o (by simpa using a) e) g j l m n⟩
 self:=L
section
variable {X:Cx} {tg:Expr}
end
section
variable {K:yg} {a:Addr} {xs:List V} {g:TG} {tc:TT} {te:TE} {σ':St} {H1:Hp} {Q:V->Hp->Prop}
def qd1 (J:It) (g:TG) (tc:TT) (te:TE) (σ':St) (H1:Hp) (Q:V->Hp->Prop):Prop:=
 ∃ W:Nat->Nat->List V->Hp->Prop,(∃ m,W 0 m [] H1)/\∀ i m ys H,W i m ys H ->
   (J.stop i H/\ys.length<=sizeLine/\∀ p,H p=none->Q (.ref p) (upd H p (.lst ys))) \/
   (J.go i H/\∃ M:List V->Hp->Prop,(∀ ys' H',M ys' H'->∃ d,d<m/\W (i+1) d ys' H')/\∀ x H',J.yld i H x H'->g x σ' H' fun a e=>tc a e fun b c =>
    if b=true then te a c fun v f=>ys.length<sizeLine/\M (ys++[v]) f else M ys c)
theorem qZ (c:Nat->List V->Hp->Prop) (n:c 0 [] H1) (hl:∀ i ys H,i<=xs.length->c i ys H->SqL K H a xs)
  (s:∀ i x ys H,xs[i]?=some x->c i ys H->g x σ' H fun f j=>tc f j fun b h=>if b=true then te f h fun v l=>ys.length<sizeLine/\c (i+1) (ys++[v]) l else c (i+1) ys h)
  (o:∀ ys H,c xs.length ys H->ys.length<=sizeLine/\∀ p,H p=none->Q (.ref p) (upd H p (.lst ys))):qd1 (Itl K a) g tc te σ' H1 Q:=by
 refine ⟨fun i m ys H=>m=xs.length-i/\i<=xs.length/\c i ys H,⟨xs.length,by simp,YI _,n⟩,?_⟩;rintro i m ys H ⟨rfl,r,p⟩;have q:=hl i ys H r p;by_cases d:i<xs.length
 ·refine .inr ⟨⟨xs,xs[i],q,by simp [d]⟩,c (i+1),fun ys' H' t=>⟨xs.length-(i+1),by omega,rfl,d,t⟩,fun x H' y=>?_⟩;obtain ⟨e,y⟩:=y;subst e;exact s i x ys _ (y xs q) p
 ·have e:i=xs.length:=by omega
  subst e;exact .inl ⟨⟨xs,q,yh _⟩,o ys H p⟩
theorem zX {lo:Int} (a:Nat->List V->Hp->Prop) (l:a 0 [] H1)
  (q:∀ i ys H,i<n->a i ys H->g (.int (lo+i)) σ' H fun d h=>tc d h fun b f=>if b=true then te d f fun v j=>ys.length<sizeLine/\a (i+1) (ys++[v]) j else a (i+1) ys f)
  (o:∀ ys H,a n ys H->ys.length<=sizeLine/\∀ p,H p=none->Q (.ref p) (upd H p (.lst ys))):qd1 (Itr lo n) g tc te σ' H1 Q:=by
 refine ⟨fun i m ys H=>m=n-i/\i<=n/\a i ys H,⟨n,by simp,YI _,l⟩,?_⟩;rintro i m ys H ⟨rfl,s,p⟩;by_cases c:i<n
 ·refine .inr ⟨c,a (i+1),fun ys' H' r=>⟨n-(i+1),by omega,rfl,c,r⟩,fun x H' y=>?_⟩;obtain ⟨e,y⟩:=y;subst e y;exact q i ys _ c p
 ·have e:i=n:=by omega
  subst e;exact .inl ⟨yh _,o ys H p⟩
theorem comp_str (a:Nat->List V->Hp->Prop) (n:a 0 [] H1)
  (q:∀ i c ys H,x.cps[i]?=some c->a i ys H->g (.str ⟨#[c]⟩) σ' H fun f j=>tc f j fun b h=>if b=true then te f h fun v l=>ys.length<sizeLine/\a (i+1) (ys++[v]) l else a (i+1) ys h)
  (o:∀ ys H,a x.cps.size ys H->ys.length<=sizeLine/\∀ p,H p=none->Q (.ref p) (upd H p (.lst ys))):qd1 (Its x) g tc te σ' H1 Q:=by
 refine ⟨fun i m ys H=>m=x.cps.size-i/\i<=x.cps.size/\a i ys H,⟨x.cps.size,by simp,YI _,n⟩,?_⟩;rintro i m ys H ⟨rfl,s,p⟩;by_cases d:i<x.cps.size
 ·refine .inr ⟨d,a (i+1),fun ys' H' r=>⟨x.cps.size-(i+1),by omega,rfl,d,r⟩,fun v H' y=>?_⟩;obtain ⟨e,c,hc,y⟩:=y;subst e y;exact q i c ys _ hc p
 ·have e:i=x.cps.size:=by omega
  subst e;exact .inl ⟨rfl,o ys H p⟩
end
noncomputable def qcs:V->Option Value
 | .ty n=>some (.type n)
 | .ref a=>some (.ref a)
 | _=>none
theorem qbH {c:Value} (h:qcs y=some c) (r:RelV y u):u=c:=by
 cases y with
 | ty n=>cases h;exact r
 | ref a=>cases h;exact r
 | _=>cases h
section
variable {X:Cx} {pins:List (Addr×Obj)} {σ:St} {H:Hp} {s:Shared}
theorem TyOf.kit {x:V} (I:Inv X pins σ H s) (b:RelV x u) (ty:TyOf X.K H x t):∃ P:Heap->Prop,PySem.W.KitX X.K u t P/\P s.heap/\u≠.builtin "__main__.__loader__#opaque":=by
 cases ty with
 | non=>cases (show u=Value.none from b);exact ⟨_,PySem.W.kitx_none,YM,(fun z=>nomatch z)⟩
 | bl y=>cases (show u=Value.bool y from b);exact ⟨_,PySem.W.kitx_bool,YM,(fun z=>nomatch z)⟩
 | int i=>obtain ⟨t,q⟩:=(show ∃ t,u=Value.int i t from b);cases q;exact ⟨_,PySem.W.kitx_int,YM,(fun z=>nomatch z)⟩
 | str y=>obtain ⟨t,q⟩:=(show ∃ t,u=Value.str y t from b);cases q;exact ⟨_,PySem.W.kitx_str,YM,(fun z=>nomatch z)⟩
 | flt y=>obtain ⟨t,q⟩:=(show ∃ t,u=Value.float y t from b);cases q;exact ⟨_,PySem.W.kitx_float,YM,(fun z=>nomatch z)⟩
 | @lst a xs ea =>
  cases (show u=Value.ref a from b);obtain ⟨_,_,n,_,h1⟩:=(show ObjOk X.prog X.w H s.heap a (.lst xs) from I.hok a _ ea);exact ⟨_,PySem.W.kitx_list,⟨_,h1,rfl⟩,(fun z=>nomatch z)⟩
 | @frz a ob xs ea =>
  cases (show u=Value.ref a from b);obtain ⟨_,_,_,n,_,h1⟩:=(show ObjOk X.prog X.w H s.heap a (.frz ob (.lst xs)) from I.hok a _ ea);exact ⟨_,PySem.W.kitx_list,⟨_,h1,rfl⟩,(fun z=>nomatch z)⟩
 | @tup a xs ea =>
  cases (show u=Value.ref a from b);obtain ⟨_,_,_,p⟩:=(show ObjOk X.prog X.w H s.heap a (.tup xs) from I.hok a _ ea);obtain ⟨o,h1,c,_⟩:=p;exact ⟨_,PySem.W.kitx_tuple,⟨o,h1,c⟩,(fun z=>nomatch z)⟩
 | @dK a kvs ea =>
  cases (show u=Value.ref a from b);obtain ⟨_,_,vs,_,p⟩:=(show ObjOk X.prog X.w H s.heap a (.dK kvs) from I.hok a _ ea);obtain ⟨o,d,ep,h1,c,_⟩:=p;exact ⟨_,PySem.W.kitx_dict,⟨o,h1,c.1⟩,(fun z=>nomatch z)⟩
 | @dT a kvs ea =>
  cases (show u=Value.ref a from b);obtain ⟨_,_,xs,_,o,d,ep,h1,c,_⟩:=(show ObjOk X.prog X.w H s.heap a (.dT kvs) from I.hok a _ ea);exact ⟨_,PySem.W.kitx_dict,⟨o,h1,c.1⟩,(fun z=>nomatch z)⟩
 | @ins a C dx fs ea cl ha hn htk hm =>
  cases (show u=Value.ref a from b);obtain ⟨e,O,_⟩:=qaH I.hok ea;obtain ⟨od,J,_⟩:=O.look;exact ⟨_,PySem.W.kitx_own (cl.get _) cl.hd ha hn htk hm,J,(fun z=>nomatch z)⟩
end
section
variable {X:Cx}
theorem qbi:∀ {ys:List V} {a us:List Value},ys.map qcs=a.map some->Vals ys us->us=a
 | [],[],_,_,.nil=>rfl
 | [],_::_,_,h,_=>by cases h
 | y::ys,[],_,h,_=>by cases h
 | y::ys,c::a,_,h,.cons r t=>by
  rw [YG,YG] at h
  injection h with h1 h2
  rw [qbH h1 r,qbi h2 t]
theorem qbS:∀ {bs:List Bool} {us:List Value},Vals (bs.map V.bl) us->us=bs.map Value.bool
 | [],_,.nil=>rfl
 | b::bs,_,.cons r t=>by
  have e:=qbS t;rw [e];cases r;rfl
def qgy (K:yg):List V->Hp->VK->Prop:=fun xs H Q=>∃ (p:Addr) (bs:List Bool),xs=[.ref p]/\SqL K H p (bs.map V.bl)/\Q (.bl (bs.all id)) H
theorem call_all (hc:X.calm=true):zm X (.builtin "all") (qgy X.K):=by
 intro pins s σ H xs us Q I r h;obtain ⟨p,bs,rfl,w,q⟩:=h;obtain ⟨u,rfl,y⟩:=qaO r;cases y;obtain ⟨its,z,pl,hz⟩:=I.list w;have e:=qbS z;subst e;have m:X.A.in1.handled=none:=I.ok.hd hc;refine call_all_walk (XU pl.isList ?_)
 have f:p≠s.heap.objs.size:=by
  obtain ⟨o,t,_⟩:=pl.isList;exact yI (yH t)
 refine ⟨s.heap.objs.size,_,_,_,_,_,fun i=>(bs[i]?).getD false,rfl,Walks.list m s.heap.objs.size p f (bs.map Value.bool).toArray,⟨⟨_,yV _ rfl,rfl,rfl⟩,pl.isList.at fun o e=>yu _ e⟩,fun i v s Q E hv x=>?_,fun h' tk n=>?_⟩
 ·have a:(bs.map Value.bool)[i]?=some v:=by simpa using hv
  rw [yd] at a
  cases e:bs[i]? with
  | none=>rw [e] at a;cases a
  | some b =>
   rw [e] at a;cases a;have c:Q ((bs[i]?).getD false) s:=x;rw [e] at c;exact yw c
 ·have e:((List.range (bs.map Value.bool).toArray.size).all fun i=>(bs[i]?).getD false)=bs.all id:=by
   rw [yx,ya]
   have g:∀ bs:List Bool,((List.range bs.length).all fun i=>(bs[i]?).getD false)=bs.all id:=by
    intro bs
    induction bs with
    | nil=>rfl
    | cons b r ih =>
     rw [yC,List.range_succ_eq_map,kc,kY,kc,<- ih];rfl
   exact g bs
  rw [e];refine ⟨.bl _,H,?_,rfl,q⟩;have j:Inv X pins σ H { s with heap:=s.heap.push { cls:=.type "list_iterator",data:=.fields #[.ref p,.int 0 0] } }:=I.kept (t':=s.toks) fun b o e=>yu _ e;have d:=I.fpOk (b:=s.heap.objs.size) (yh _) (I.hok.fresh (yh _));exact j.turned (it:=s.heap.objs.size) (h':=h') (t':=tk) (fun b o l e=>n b o (by simpa using l) e) d.1 d.2.1 d.2.2.2.1 d.2.2.2.2.1 d.2.2.2.2.2
theorem op_le_str:OpR X (compareOp .LtE) (fun x y H Q=>∃ i j,x=.str i/\y=.str j/\Q (.bl (!decide (j.cps.toList<i.cps.toList))) H):=by
 intro pins s σ H x y v u Q I a b h;obtain ⟨i,j,rfl,rfl,q⟩:=h;obtain ⟨t,rfl⟩:=a;obtain ⟨t',rfl⟩:=b;exact PySem.P.le_str (qc6 I q (by rfl))
def qgb:R2:=fun x y H Q=>match x,y with
 | .int i,.int j=>Q (.bl (decide (i<=j))) H
 | .str i,.str j=>Q (.bl (!decide (j.cps.toList<i.cps.toList))) H
 | _,_=>False
theorem qeP:OpR X (compareOp .LtE) qgb:=by
 intro pins s σ H x y v u Q I a b h
 cases x with
 | int i=>cases y with
  | int j=>exact op_le pins s σ H _ _ v u Q I a b ⟨i,j,rfl,rfl,h⟩
  | _=>exact False.elim h
 | str i=>cases y with
  | str j=>exact op_le_str pins s σ H _ _ v u Q I a b ⟨i,j,rfl,rfl,h⟩
  | _=>exact False.elim h
 | _=>exact False.elim h
theorem op_is_bl:OpR X (compareOp .Is) (fun x y H Q=>∃ i j,x=.bl i/\y=.bl j/\Q (.bl (i==j)) H):=by
 intro pins s σ H x y v u Q I a b h;obtain ⟨i,j,rfl,rfl,q⟩:=h;cases a;cases b;exact wpAny_is_plain (by cases i<;>cases j<;>rfl) (qc6 I q (by cases i<;>cases j<;>rfl))
def qgz:R2:=fun x y H Q=>match x,y with
 | .bl i,.bl j=>Q (.bl (i==j)) H
 | x,.non=>Q (.bl (decide (x=.non))) H
 | _,_=>False
theorem qgA:OpR X (compareOp .Is) qgz:=by
 intro pins s σ H x y v u Q I a b h
 cases y with
 | non=>exact op_isN pins s σ H x _ v u Q I a b ⟨rfl,by cases x<;>exact h⟩
 | bl j=>cases x with
  | bl i=>exact op_is_bl pins s σ H _ _ v u Q I a b ⟨i,j,rfl,rfl,h⟩
  | _=>exact False.elim h
 | _=>cases x<;>exact False.elim h
theorem op_rep_str:OpR X (binaryOp .Mult) (fun x y H Q=>∃ z k,x=.str z/\y=.int k/\MulOk z k/\Q (.str (Txt.mul z k)) H):=by
 intro pins s σ H x y v u Q I b c h;obtain ⟨z,k,rfl,rfl,a,q⟩:=h;obtain ⟨t,rfl⟩:=b;obtain ⟨t',rfl⟩:=c;exact SB.mul a fun t' k'=>⟨.str _,H,I.tok _,⟨_,rfl⟩,q⟩
def qfK:R2:=fun x y H Q=>match x,y with
 | .int i,.int j=>CMul i j/\Q (.int (i*j)) H
 | .str z,.int k=>MulOk z k/\Q (.str (Txt.mul z k)) H
 | .ref a,.int k=>qgw (.ref a) (.int k) H Q
 | _,_=>False
theorem qbT:OpR X (binaryOp .Mult) qfK:=by
 intro pins s σ H x y v u Q I b c h
 cases y with
 | int j=>cases x with
  | int i=>exact op_mul pins s σ H _ _ v u Q I b c ⟨i,j,rfl,rfl,h.1,h.2⟩
  | str i=>exact op_rep_str pins s σ H _ _ v u Q I b c ⟨i,j,rfl,rfl,h.1,h.2⟩
  | ref a=>exact qdY pins s σ H _ _ v u Q I b c h
  | _=>exact False.elim h
 | _=>cases x<;>exact False.elim h
def qdD (K:yg):R2:=fun x y H Q=>match x,y with
 | .int i,.int j=>Q (.int (i+j)) H
 | .str i,.str j=>i.length+j.length<=sizeLine/\Q (.str (i++j)) H
 | .ref a,.ref b=>qgv (.ref a) (.ref b) H Q\/qfI K (.ref a) (.ref b) H Q
 | _,_=>False
theorem u_add:OpR X (binaryOp .Add) (qdD X.K):=by
 intro pins s σ H x y v u Q I c d h
 cases x with
 | int i=>cases y with
  | int j=>exact op_add pins s σ H _ _ v u Q I c d ⟨i,j,rfl,rfl,h⟩
  | _=>exact False.elim h
 | str i=>cases y with
  | str j=>exact op_add_str pins s σ H _ _ v u Q I c d ⟨i,j,rfl,rfl,h.1,h.2⟩
  | _=>exact False.elim h
 | ref a=>cases y with
  | ref b=>exact h.elim (fun h=>op_cat pins s σ H _ _ v u Q I c d h) fun h=>op_catT pins s σ H _ _ v u Q I c d h
  | _=>exact False.elim h
 | _=>exact False.elim h
def qdE (K:yg):List V->Hp->VK->Prop:=fun xs H Q=>match xs with
 | [.str z]=>z.length<=sizeLine/\Q (.int z.length) H
 | [.ref p]=>(∃ ys,(SqL K H p ys\/SqT K H p ys)/\Q (.int ys.length) H)\/∃ kvs,H p=some (.dK kvs)/\Q (.int kvs.length) H
 | _=>False
theorem call_lenU:zm X (.builtin "len") (qdE X.K):=by
 intro pins s σ H xs us Q I r h
 match xs,h with
 | [.str z],h=>exact call_len_str pins s σ H _ us Q I r ⟨z,rfl,h.1,h.2⟩
 | [.ref p],.inl ⟨ys,h,q⟩=>exact call_len_seq pins s σ H _ us Q I r ⟨p,ys,rfl,h,q⟩
 | [.ref p],.inr ⟨kvs,h,q⟩=>exact call_lenD pins s σ H _ us Q I r ⟨p,kvs,rfl,h,q⟩
theorem sl_str:SlR X (fun x lo b H Q=>∃ z,x=.str z/\z.length<=sizeLine/\Q (.str (Txt.slice z lo b)) H):=by
 intro pins s σ H x v f g lo b e Q I d a pl c h;obtain ⟨z,rfl,hz,q⟩:=h;obtain ⟨t,rfl⟩:=d;refine ⟨"str",_,F.slot_str_getitem.lookup,typeIs_str _ _ _,?_⟩
 cases pl with
 | none =>
  cases c with
  | none=>exact xP (l:=none) (u:=none) (st:=none) a rfl (ko ⟨yi (kZ z _ _) hz,fun t' k=>⟨.str _,H,I.tok _,⟨_,rfl⟩,q⟩⟩)
  | int j uj=>exact xP (l:=none) (u:=some (j,uj)) (st:=none) a rfl (ko ⟨yi (kZ z _ _) hz,fun t' k=>⟨.str _,H,I.tok _,⟨_,rfl⟩,q⟩⟩)
 | int i ui =>
  cases c with
  | none=>exact xP (l:=some (i,ui)) (u:=none) (st:=none) a rfl (ko ⟨yi (kZ z _ _) hz,fun t' k=>⟨.str _,H,I.tok _,⟨_,rfl⟩,q⟩⟩)
  | int j uj=>exact xP (l:=some (i,ui)) (u:=some (j,uj)) (st:=none) a rfl (ko ⟨yi (kZ z _ _) hz,fun t' k=>⟨.str _,H,I.tok _,⟨_,rfl⟩,q⟩⟩)
def qgc (K:yg):V->Option Int->Option Int->Hp->VK->Prop:=fun x lo b H Q=>match x with
 | .str z=>z.length<=sizeLine/\Q (.str (Txt.slice z lo b)) H
 | .ref a=>qgu K (.ref a) lo b H Q\/qgq K (.ref a) lo b H Q
 | _=>False
theorem u_sl:SlR X (qgc X.K):=by
 intro pins s σ H x v g i lo b f Q I e c pl d h
 cases x with
 | str z=>exact sl_str pins s σ H _ v g i lo b f Q I e c pl d ⟨z,rfl,h.1,h.2⟩
 | ref a=>exact h.elim (fun h=>sl_list pins s σ H _ v g i lo b f Q I e c pl d h) fun h=>sl_tup pins s σ H _ v g i lo b f Q I e c pl d h
 | _=>exact False.elim h
theorem qd2:∀ {ys:List Str} {us:List Value},Vals (ys.map V.str) us->StrsAre us ys
 | [],_,.nil=>.nil
 | y::ys,_,.cons r t=>by
  obtain ⟨tk,rfl⟩:=r;exact .cons y tk (qd2 t)
def qfL (K:yg):V->List V->Hp->VK->Prop:=fun x vs H Q=>∃ (z:Str) (p:Addr) (ys:List Str),x=.str z/\vs=[.ref p]/\SqL K H p (ys.map V.str)/\(ys.map (·.length)).sum+ys.length*z.length<=16777216/\Q (.str (Txt.join z ys)) H
theorem mt_join:MtR X "str.join" (qfL X.K):=by
 intro pins s σ H x vs v us Q I d c h;obtain ⟨z,p,ys,rfl,rfl,a,hz,q⟩:=h;obtain ⟨t,rfl⟩:=d;obtain ⟨u,rfl,b⟩:=c.one;cases b;obtain ⟨its,r,pl,_⟩:=I.list a;exact join_list pl.isList (by simpa using qd2 r) hz fun t' k=>⟨.str _,H,I.tok _,⟨_,rfl⟩,q⟩
def qgd (K:yg) (te:TE):TI:=fun σ H R=>te σ H fun v b=>match v with
 | .str x=>R (Its x) b
 | .ref a=>((∃ xs,SqL K b a xs)/\R (Itl K a) b)\/((∃ xs,SqT K b a xs)/\R (Itt K a) b)
 | _=>False
theorem pi_any {e:Expr} (w:PE X e te) (g:∀ it v,letOwnedTupleGo tg it v=pure ():=by intro _ _;rfl):PI X tg e (qgd X.K te):=by
 intro pins s σ H R I h;refine thn (w pins s σ H _ I h) fun v c ⟨y,f,d,u,j⟩=>?_
 cases y with
 | str x =>
  obtain ⟨t,rfl⟩:=u
  have fp:∀ b∈[c.heap.objs.size],qcJ X pins f b:=fun b m=>by
   have e:b=c.heap.objs.size:=by simpa using m
   subst e;exact d.fpOk (yh _) (d.hok.fresh (yh _))
  cases r:x.cps.all (· < 128)
  ·exact wpAny_pyIter_wide r ⟨c.heap.objs.size,[c.heap.objs.size],_,_,f,rfl,d.kept (t':=c.toks) fun b o e=>yu _ e,
    qdf (T:="str_iterator") (fun A l=>Walks.strWide l _ x t) (fun A i s Q E st h=>wpAny_pyIter_striter_wide st h) (g _),⟨_,yV _ rfl,rfl,rfl⟩,fp,j⟩
  ·exact wpAny_pyIter_ascii r ⟨c.heap.objs.size,[c.heap.objs.size],_,_,f,rfl,d.kept (t':=c.toks) fun b o e=>yu _ e,
    qdf (T:="str_ascii_iterator") (fun A l=>Walks.strAscii l _ x t) (fun A i s Q E st h=>wpAny_pyIter_striter_ascii st h) (g _),⟨_,yV _ rfl,rfl,rfl⟩,fp,j⟩
 | ref a =>
  cases u
  have fp:∀ b∈[c.heap.objs.size],qcJ X pins f b:=fun b m=>by
   have e:b=c.heap.objs.size:=by simpa using m
   subst e;exact d.fpOk (yh _) (d.hok.fresh (yh _))
  rcases j with ⟨⟨xs,n⟩,q⟩ | ⟨⟨xs,n⟩,q⟩
  ·obtain ⟨its,z,p,hz⟩:=d.list n;exact XU p.isList ⟨c.heap.objs.size,[c.heap.objs.size],_,_,f,rfl,d.kept (t':=c.toks) fun b o e=>yu _ e,qcc a _,⟨_,yV _ rfl,rfl,rfl⟩,fp,q⟩
  ·obtain ⟨its,z,p,hz⟩:=d.tuple n;exact wpAny_pyIter_tuple (show c.heap.IsTuple a its.toArray from p) ⟨c.heap.objs.size,[c.heap.objs.size],_,_,f,rfl,d.kept (t':=c.toks) fun b o e=>yu _ e,turn_tuple a _,⟨_,yV _ rfl,rfl,rfl⟩,fp,q⟩
 | _=>exact False.elim j
end
section
variable {D:Ends} {σ:St} {H:Hp} {Q:VK} {QT:Bool->Hp->Prop} {QA:List V->Hp->Prop} {t u:TS} {te ta tb tc:TE} {c c':TT} {tr tas:TA} {r r':R2} {K:yg}
theorem vSeq (h:t { D with nx:=u D } σ H):qf5 t u D σ H:=h
theorem vAsg {i:Nat} (h:te σ H fun x a=>D.nx (σ.set i (some x)) a):qft te (qbR i) D σ H:=h
theorem vAsgS {to a:TE} {s:qfC} (h:te σ H fun x b=>to σ b fun o c=>a σ c fun i d=>s o i x d fun e=>D.nx σ e):qft te (qgl to a s) D σ H:=h
theorem vIfS (h:c σ H fun b a=>if b=true then t D σ a else u D σ a):qgi c t u D σ H:=h
theorem vRet (h:te σ H D.rt):qgh te D σ H:=h
theorem vRetN (h:D.rt .non H):qfB D σ H:=h
theorem vDrop (h:te σ H fun _ a=>D.nx σ a):qfA te D σ H:=h
theorem vNext (h:D.nx σ H):qfz D σ H:=h
theorem vC (h:Q v H):tC v σ H Q:=h
theorem vVar {i:Nat} (e:σ[i]?=some (some v)) (h:Q v H):qf4 i σ H Q:=⟨v,e,h⟩
theorem vOp (h:ta σ H fun x a=>tb σ a fun y b=>r x y b Q):tOp r ta tb σ H Q:=h
theorem vUn {f:V->Hp->VK->Prop} (h:ta σ H fun x a=>f x a Q):tUn f ta σ H Q:=h
theorem vChain (h:ta σ H fun x b=>tb σ b fun y c=>r x y c fun z a=>∃ k,z=.bl k/\if k=true then tc σ a fun e d=>r' y e d Q else Q (.bl false) a):qdO r r' ta tb tc σ H Q:=h
theorem vNil (h:QA [] H):qfZ σ H QA:=h
theorem vCons (h:ta σ H fun x a=>tr σ a fun xs b=>QA (x::xs) b):qfF ta tr σ H QA:=h
theorem vCB {f:List V->Hp->VK->Prop} (h:tas σ H fun vs a=>f vs a Q):tCB f tas σ H Q:=h
theorem vCall {E:XK} (h:tas σ H fun vs a=>sp (vs++[]) a Q E):qdP sp [] E tas σ H Q:=h
theorem vLst (h:tas σ H fun xs a=>xs.length<=sizeLine/\∀ p,a p=none->Q (.ref p) (upd a p (.lst xs))):qgp tas σ H Q:=h
theorem vTup (h:tas σ H fun xs a=>xs.length<=sizeLine/\∀ p,a p=none->Q (.ref p) (upd a p (.tup xs))):qgo tas σ H Q:=h
theorem vTest (h:te σ H fun x H'=>∃ k,x=.bl k/\QT k H'):qfc te σ H QT:=h
theorem vB (h:te σ H fun x H'=>∃ k,x=.bl k/\QT k H'):tB te σ H QT:=h
theorem vNot (h:c σ H fun b a=>QT (!b) a):qgg c σ H QT:=h
theorem vAnd (h:c σ H fun b a=>if b=true then c' σ a QT else QT false a):qgf c c' σ H QT:=h
theorem vOr (h:c σ H fun b a=>if b=true then QT true a else c' σ a QT):tOr c c' σ H QT:=h
theorem vAndV (h:ta σ H fun x a=>∃ k,x=.bl k/\if k=true then tb σ a Q else Q (.bl false) a):qfy ta tb σ H Q:=h
theorem vOrV (h:ta σ H fun x a=>∃ k,x=.bl k/\if k=true then Q (.bl true) a else tb σ a Q):tOrV ta tb σ H Q:=h
theorem vNotV (h:ta σ H fun x a=>∃ k,x=.bl k/\Q (.bl (!k)) a):tNotV ta σ H Q:=h
theorem vIf (h:c σ H fun b a=>if b=true then ta σ a Q else tb σ a Q):tIf c ta tb σ H Q:=h
theorem vYes (h:QT true H):qgx σ H QT:=h
theorem vI0 {g:Int->Int->V} (h:Q (g i j) H):rI0 g (.int i) (.int j) H Q:=⟨i,j,rfl,rfl,h⟩
theorem vI {C:Int->Int->Prop} {g:Int->Int->V} (hc:C i j) (h:Q (g i j) H):rI C g (.int i) (.int j) H Q:=⟨i,j,rfl,rfl,hc,h⟩
theorem vU {g:Int->V} (h:Q (g i) H):rU g (.int i) H Q:=⟨i,rfl,h⟩
theorem vEqI (h:Q (.bl (decide (i=j))) H):rEq (.int i) (.int j) H Q:=⟨rfl,by
 have e:decide (V.int i=V.int j)=decide (i=j):=by
  by_cases h:i=j
  ·subst h;simp
  ·rw [yl h,yl (fun e=>h (V.int.inj e))]
 rw [e];exact h⟩
theorem vEqB {i j:Bool} (h:Q (.bl (i==j)) H):rEq (.bl i) (.bl j) H Q:=⟨rfl,by rw [dec_bl];exact h⟩
theorem za (b:H p=some (.lst xs)) (a:atI xs i=some v) (h:Q v H):rIx K (.ref p) (.int i) H Q:=.inl ⟨p,xs,i,v,rfl,rfl,SqL.of b,a,h⟩
theorem vIxLs (b:SqL K H p xs) (a:atI xs i=some v) (h:Q v H):rIx K (.ref p) (.int i) H Q:=.inl ⟨p,xs,i,v,rfl,rfl,b,a,h⟩
theorem qbj (b:H p=some (.tup xs)) (a:atI xs i=some v) (h:Q v H):rIx K (.ref p) (.int i) H Q:=.inr (.inl ⟨p,xs,i,v,rfl,rfl,SqT.of b,a,h⟩)
theorem qgB {ch:Nat} (hz:z.length<=sizeLine) (a:atI z.cps.toList i=some ch) (h:Q (.str ⟨#[ch]⟩) H):rIx K (.str z) (.int i) H Q:=.inr (.inr ⟨z,i,ch,rfl,rfl,hz,a,h⟩)
theorem qdF {k:Int} {j:Nat} {a:Hp->Prop} (c:H p=some (.lst xs)) (b:ixN xs.length k=some j) (h:a (upd H p (.lst (xs.set j v)))):qfe (.ref p) (.int k) v H a:=⟨p,xs,k,j,rfl,rfl,c,b,h⟩
theorem vEx {k:Bool} {P:Bool->Prop} (h:P k):∃ k',V.bl k=.bl k'/\P k':=⟨k,rfl,h⟩
theorem vLeI (h:Q (.bl (decide (i<=j))) H):qgb (.int i) (.int j) H Q:=h
theorem vLeS {i j:Str} (h:Q (.bl (!decide (j.cps.toList<i.cps.toList))) H):qgb (.str i) (.str j) H Q:=h
theorem vIsB {i j:Bool} (h:Q (.bl (i==j)) H):qgz (.bl i) (.bl j) H Q:=h
theorem vAddI (h:Q (.int (i+j)) H):qdD K (.int i) (.int j) H Q:=h
theorem qff {i j:Str} (hz:i.length+j.length<=sizeLine) (h:Q (.str (i++j)) H):qdD K (.str i) (.str j) H Q:=⟨hz,h⟩
theorem qbU (hc:CMul i j) (h:Q (.int (i*j)) H):qfK (.int i) (.int j) H Q:=⟨hc,h⟩
theorem qfM (hz:z.length<=sizeLine) (h:Q (.int z.length) H):qdE K [.str z] H Q:=⟨hz,h⟩
theorem qbV (a:H p=some (.lst ys)) (h:Q (.int ys.length) H):qdE K [.ref p] H Q:=.inl ⟨ys,.inl (SqL.of a),h⟩
theorem vLenLs (a:SqL K H p ys) (h:Q (.int ys.length) H):qdE K [.ref p] H Q:=.inl ⟨ys,.inl a,h⟩
theorem vLenT (a:H p=some (.tup ys)) (h:Q (.int ys.length) H):qdE K [.ref p] H Q:=.inl ⟨ys,.inr (SqT.of a),h⟩
theorem qge {lo a:Option Int} (hz:z.length<=sizeLine) (h:Q (.str (Txt.slice z lo a)) H):qgc K (.str z) lo a H Q:=⟨hz,h⟩
theorem vSl {f:V->Option Int->Option Int->Hp->VK->Prop} {tl a:TO} (h:te σ H fun x b=>tl σ b fun l c=>a σ c fun u d=>f x l u d Q):tSl f te tl a σ H Q:=h
theorem vNoPart (h:QO none H):qdS σ H QO:=h
theorem vPart (h:te σ H fun x a=>∃ i,x=.int i/\QO (some i) a):qfH te σ H QO:=h
theorem vExI {P:Int->Prop} (h:P i):∃ j,V.int i=.int j/\P j:=⟨i,rfl,h⟩
theorem vBM {f:V->List V->Hp->VK->Prop} (h:te σ H fun x a=>tyV K T x a/\tas σ a fun xs b=>f x xs b Q):tBM K T f te tas σ H Q:=h
theorem vBM0 {f:V->List V->Hp->VK->Prop} (h:te σ H fun x a=>tyV K T x a/\f x [] a Q):qf9 K T f te σ H Q:=h
theorem vComp (h:wi σ H fun J a=>qd1 J g c te (qdJ nl ixs σ) a Q):qeE wi g c te nl ixs σ H Q:=h
theorem vFor (h:wi σ H fun J d=>∃ W:Nat->Nat->St->Hp->Prop,(∃ m,W 0 m σ d)/\∀ i m σ H,W i m σ H ->
 (J.stop i H/\D.nx σ H)\/(J.go i H/\∃ N:St->Hp->Prop,(∀ a H',N a H'->∃ c,c<m/\W (i+1) c a H')/\∀ x H',J.yld i H x H'->g x σ H' fun b e=>t { D with nx:=N,ct:=N,bk:=D.nx } b e)):qgm wi g t D σ H:=h
theorem vRng1 (h:tas σ H fun vs a=>∃ j:Int,vs=[.int j]/\-(2 ^ 62)<=j/\j<2 ^ 62/\R (Itr 0 j.toNat) a):qfD tas σ H R:=h
theorem vAny (h:te σ H fun v b=>match v with
 | .str x=>R (Its x) b
 | .ref a=>((∃ xs,SqL K b a xs)/\R (Itl K a) b)\/((∃ xs,SqT K b a xs)/\R (Itt K a) b)
 | _=>False):qgd K te σ H R:=h
theorem vGN {i:Nat} {a:St->Hp->Prop} (h:a (σ.set i (some v)) H):qbR i v σ H a:=h
end
section
variable {X:Cx} {K:yg} {o e:Expr} {es:List Expr} {to ta:TE} {t:TA} {name f:Str} {apos cpos pos:Pos} {T id:String} {r:V->List V->Hp->VK->Prop} {tg:Expr}
theorem qai (a:X.K=K):zm X (.builtin "len") (qdE K):=by subst a;exact call_lenU
theorem qeF (a:X.K=K) (hc:X.calm=true):zm X (.builtin "all") (qgy K):=by subst a;exact call_all hc
theorem qd3 (a:X.K=K):SlR X (qgc K):=by subst a;exact u_sl
theorem jU (a:X.K=K):OpR X (binaryOp .Add) (qdD K):=by subst a;exact u_add
theorem k_join (a:X.K=K):MtR X "str.join" (qfL K):=by subst a;exact mt_join
theorem qU (b:X.K=K) (c:PE X e ta) (a:∀ it v,letOwnedTupleGo tg it v=pure ():=by intro _ _;rfl):PI X tg e (qgd K ta):=by subst b;exact pi_any c a
theorem k_bm0 (e:X.K=K) (h:PlainAttrs T) (c:Slot T name id) (d:typeOf (.builtin id)=pure (.type "method_descriptor")) (f:MtR X id r) (g:PE X o to)
  (a:attributeBase o name X.env (eval o X.env)=eval o X.env:=by rfl) (b:(apos.endLine==cpos.line)=true:=by rfl):PE X (.Call (.Attribute o name apos) [] [] cpos) (qf9 K T r to):=by
 subst e;exact pe_bm0 h c d f g a b
theorem qbI (h:X.K=K) (n:PlainAttrs T) (f:Slot T name id) (g:typeOf (.builtin id)=pure (.type "method_descriptor")) (j:MtR X id r) (l:PE X o to) (i:PA X (e::es) t)
  (b:attributeBase o name X.env (eval o X.env)=eval o X.env:=by rfl)
  (d:((backTo cpos (starEach (e::es) X.env)).all (fun x=>!x.1)&&(backToKw cpos (keywordEach [] X.env)).all (fun x=>x.1.isSome)
   && decide ((e::es).length+([]:List Keyword).length+(if ([]:List Keyword).isEmpty then 0 else 1)<30))=true:=by rfl)
  (c:(apos.endLine==cpos.line)=true:=by rfl) (m:starEach (e::es) X.env=(false,eval e X.env)::starEach es X.env:=by rfl) (a:(backTo cpos (starEach es X.env)).any (·.1)=false:=by rfl) :
  PE X (.Call (.Attribute o name apos) (e::es) [] cpos) (tBM K T r to t):=by
 subst h;exact pe_bm n f g j l i b d c m a
end
structure DefOk (P:Program) (w:World) (K:yg) (mg:Str->Option Value) (base:Heap) (CX:CXT) (k:Nat) (x:Str) (ps:List Str) (sp:Sp):Prop where
 ex:∃ f fd,FnOk P w K mg base CX k f fd ps sp/\mg x=some (.ref f)/\PySem.W.keepIn K (.ref f)=true/\Binds K fd ps []
section
variable {X:Cx} {CX:CXT} {k:Nat} {ps:List Str} {sp:Sp} {E:XK} {x:Str} {p pos:Pos} {e:Expr} {es:List Expr} {t:TA}
theorem qm (D:DefOk X.prog X.w X.K X.mg X.base CX k x ps sp) (l:Room k X.A) (m:zJ CX X E) (c:PA X (e::es) t) (h:Gl X x:=by rfl) (a:(x==("__debug__":Str))=false:=by decide)
  (g:starEach (e::es) X.env=(false,eval e X.env)::starEach es X.env:=by rfl) (b:(backTo pos (starEach es X.env)).any (·.1)=false:=by rfl):PE X (.Call (.Name x p) (e::es) [] pos) (qdP sp [] E t):=by
 obtain ⟨f,n,F,j,i,d⟩:=D.ex;exact pe_call F l h j i d .nil m c a g b
theorem qaT (c:Gl X x) (a:∃ tk,X.mg x=some (.int i tk)) (b:(x==("__debug__":Str))=false:=by decide):PE X (.Name x pos) (tC (.int i)):=by
 obtain ⟨tk,a⟩:=a;exact qdK c a ⟨tk,rfl⟩ b
end
noncomputable def qgC (t c:String):Bool:=t==c||(t=="bool"&&c=="int")
theorem zK (K:yg):∀ t∈["NoneType","bool","int","str","list","tuple","dict"],∀ c∈["bool","int","str","list","tuple","dict"],PySem.W.kitOne K (.type t) (.type c)=some (qgC t c):=by
 intro t a c hc;simp only [yv,yG,Yl] at a hc;rcases a with rfl | rfl | rfl | rfl | rfl | rfl | rfl<;>rcases hc with rfl | rfl | rfl | rfl | rfl | rfl<;>rfl
noncomputable def qb9:List Value->Bool
 | [.type a,.type b,.type c,.type d]=>a=="ValueError"&&b=="Exception"&&c=="BaseException"&&d=="object"
 | .ref _::r=>qb9 r
 | _=>false
noncomputable def qf1 (K:yg) (C:Addr):Bool:=match K.lookup C with
 | some ⟨.type "type",_,.cls cd,sl⟩=>(match cd.mro,sl.toList with
  | .ref D::bm,[_,_,_,_,some (.builtin n),_]=>D==C&&!cd.hasDel&&qb9 bm&&n=="ValueError.__new__"
  | _,_=>false)
 | _=>false
theorem qdg {K:yg} (X:K.In h) (q:qf1 K C=true):∃ o p N bs c b sn sub d a e f g i j m,
  h.get? C=some (excClassObj o p C N bs c b sn sub d a e f g i j m "ValueError.__new__")/\qb9 c=true:=by
 unfold qf1 at q;split at q
 ·rename_i e cd sl ho
  split at q
  ·rename_i D c f g i j n m hm hs
   simp only [yX,Yk,Xn] at q;obtain ⟨⟨⟨s,r⟩,t⟩,u⟩:=q;subst s u;obtain ⟨o,bs,mro,ns,p,v,sn,sub,d,a,del⟩:=cd;dsimp only at hm r;subst hm r;obtain ⟨l⟩:=sl;dsimp only at hs;subst hs;exact ⟨o,p,ns,bs,c,v,sn,sub,d,a,e,f,g,i,j,m,X _ _ ho,t⟩
  ·cases q
 ·cases q
structure XAt (K:yg) (C:Addr):Prop where
 ga:PySem.W.findIn K (.ref C) "__getattribute__"=some (some (.builtin "BaseException.__getattribute__"))
 gn:PySem.W.findIn K (.ref C) "__getattr__"=some none
 bx:PySem.W.mroIn K C (.type "BaseException")=some true
 ob:PySem.W.mroIn K C (.type "object")=some true
 hd:PySem.W.hasDictIn K C=true
 cl:PySem.W.findIn K (.ref C) "__class__"=some (some (.builtin "object.__class__"))
 cg:PySem.W.specialIn K (.builtin "object.__class__") "__get__"=some (some (.builtin "getset_descriptor.__get__"))
 ct:PySem.W.takesIn K (.builtin "object.__class__")=some true
 sa:PySem.W.findIn K (.ref C) "__setattr__"=some (some (.builtin "object.__setattr__"))
 mr:(PySem.W.clsIn K C).any (fun cd=>qb9 cd.mro)=true
 xc:qf1 K C=true
theorem bexc_ga_slot:Slot "ValueError" "__getattribute__" "BaseException.__getattribute__":=PySem.F.attr_ValueError.ga
section
variable {prog:Program} {w:World} {A:Around} {E:Value->Shared->Prop} {s:Shared} {K:yg} {x C:Addr} {ox:Obj} {od:Option Obj} {name:Str} {v:Value}
theorem xga_value {Q:Fin->Shared->Prop} (X:K.In s.heap) (I:PySem.W.InstAt s.heap x ox C od) (a:PySem.W.findObj K C od name=some (.value v)) (h:Q (.done (.ret v)) s) :
  wpAny (model prog w) A (Builtin.«object.__getattribute__» ⟨[.ref x,.str name tk],[]⟩) Q E s:=by
 have F:=PySem.W.looks_find (M:=model prog w) X I a;refine yr (yw (yr (yw (yr (I.type.here (yr (F.here ?_)))))));exact yw h
theorem xga_call {R:Result->Shared->Prop} (X:K.In s.heap) (I:PySem.W.InstAt s.heap x ox C od) (b:PySem.W.mroIn K C (.type "BaseException")=some true)
  (h:wpAny (model prog w) A.in1 (Builtin.«object.__getattribute__» ⟨[.ref x,.str name tk],[]⟩) (fun a s'=>match a with | .done f=>R (.ok f) s' | .again c'=>c'.quiet=true/\codeAny (model prog w) A c' R s') (fun e s'=>R (.error e) s') s) :
  codeAny (model prog w) A (.call (.builtin "BaseException.__getattribute__") ⟨[.ref x,.str name tk],[]⟩) R s:=by
 refine xI bexc_ga_slot.plain PySem.F.entry_bexc_ga ?_;exact @PySem.W.check_slot (model prog w) _ _ s "BaseException.__getattribute__" "BaseException" "__getattribute__" (.ref x) [.str name tk] [] _ (by decide +kernel) (by decide +kernel) (I.type.andThen (xq X b)) (PySem.F.args_bexc_ga _ _) h
theorem qd4 {b:Bool} {Q:Value->Shared->Prop} (X:K.In s.heap) (I:PySem.W.InstAt s.heap x ox C od) (c:XAt K C)
  (h:wpAny (model prog w) A.in1 (Builtin.«object.__getattribute__» ⟨[.ref x,.str name tk],[]⟩) (fun a s'=>match a with | .done (.ret v)=>wpAny (model prog w) A (handedOut v) Q E s' | _=>False) (fun _ _=>False) s) :
  wpAny (model prog w) A (getAttrBy (.ref x) (.str name tk) b expr) Q E s:=by
 unfold getAttrBy;refine Ys (yr (I.type.here (yr ((YO X c.ga).here ?_))))
 have d:(onTheHeap (Value.ref C)&&Value.builtin "BaseException.__getattribute__"==Value.builtin "object.__getattribute__")=false:=by
  rw [show (Value.builtin "BaseException.__getattribute__"==Value.builtin "object.__getattribute__")=false by decide +kernel];rfl
 dsimp only;rw [d,yy (by decide)];unfold getAttrByItsOwn hookBefore;rw [yF (show onTheHeap (Value.ref C)=true from rfl)];refine yr ((YO X c.gn).here (yr (ke (Ys ?_))));have e:(expr&&onTheHeap (Value.builtin "BaseException.__getattribute__"))=false:=by cases expr<;>rfl
 unfold callGetattribute;rw [e,yy (by decide)];unfold boundAndCalled;rw [bexc_ga_slot.bind];refine yr (yw ?_);show wpAny _ _ (call (.builtin "BaseException.__getattribute__") [.ref x,.str name tk]) _ _ _;refine xW (xga_call X I c.bx (YF h (fun a s' z=>?_) fun _ _ z=>z.elim));rcases a with (_ | _ | _ | _) | _<;>first | exact z | exact z.elim
theorem xget {Q:Value->Shared->Prop} (X:K.In s.heap) (I:PySem.W.InstAt s.heap x ox C od) (c:XAt K C) (a:PySem.W.findObj K C od name=some (.value v)) (b:PySem.W.handedIn v=true)
  (h:Q v { s with toks:=s.toks+1 }):wpAny (model prog w) A (getAttr (.ref x) name expr) Q E s:=by
 unfold getAttr;refine yr (wpAny_mkText (qd4 (s:={ s with toks:=s.toks+1 }) X I c (xga_value (s:={ s with toks:=s.toks+1 }) X I a ?_)));show wpAny _ _ (handedOut v) _ _ _;rw [PySem.W.handedOut_of b];exact yw h
theorem xclass {Q:Option Value->Shared->Prop} (X:K.In s.heap) (I:PySem.W.InstAt s.heap x ox C od) (c:XAt K C) (a:PySem.W.findObj K C od "__class__"=some (.bind (.builtin "getset_descriptor.__get__") (.builtin "object.__class__")))
  (h:Q (some (.ref C)) { s with toks:=s.toks+1 }):wpAny (model prog w) A (getAttr? (.ref x) "__class__") Q E s:=by
 unfold getAttr? getAttrBy?;refine yr (wpAny_mkText (yr (ke (qd4 (s:={ s with toks:=s.toks+1 }) X I c ?_))));have F:=PySem.W.looks_find (M:=model prog w) X I a;refine yr (yw (yr (yw (yr (I.type.here (s:={ s with toks:=s.toks+1 }) (yr (F.here (s:={ s with toks:=s.toks+1 }) ?_)))))));show wpAny _ _ (holding [Value.builtin "object.__class__"] (call (.builtin "getset_descriptor.__get__") [.builtin "object.__class__",.ref x,.ref C])>>=ret) _ _ _;refine yr (Ys (xW (PySem.W.class_get (s:={ s with toks:=s.toks+1 }) X I c.ob ?_)));refine yw ?_;show wpAny _ _ (handedOut (.ref C)) _ _ _;exact yw (yw h)
theorem findObj_class (c:XAt K C):PySem.W.findObj K C od "__class__"=some (.bind (.builtin "getset_descriptor.__get__") (.builtin "object.__class__")):=by
 obtain ⟨a,hc,_⟩:=xN c.hd;unfold PySem.W.findObj;rw [hc,Option.bind_some,c.cl,Option.bind_some];simp [c.cg,c.ct]
theorem qdh (c:XAt K C):PySem.W.KitX K (.ref x) (.ref C) (fun h=>PySem.W.InstAt h x ox C od) where
 ty:=fun _ _ _ I=>I.type
 it:=fun _ _ X _=>by
  obtain ⟨b,hc,_⟩:=xN c.hd;unfold PySem.W.clsIn at hc;split at hc
  ·rename_i c1 d1 cd1 sl1 ho
   intro f i g s' k q;unfold isType loadHead;exact yr (wpAny_loadPart (k _ _ (X _ _ ho)) (yw q))
  ·cases hc
 ne:=fun h d j its n l X a=>by
  obtain ⟨b,hc,_⟩:=xN c.hd;refine Bool.eq_false_iff.mpr fun q=>?_;have e:C=d:=kf (Yk.mp q);subst e;unfold PySem.W.clsIn at hc;split at hc
  ·rename_i c1 d1 cd1 sl1 ho
   have z:=(X _ _ ho).symm.trans a;cases z
  ·cases hc
 ca:=fun X I k=>xclass X I c (findObj_class c) k
end
theorem qct {r:List Value} (e:qb9 (.ref c::r)=true):qb9 r=true:=by
 cases r with
 | nil=>cases e
 | cons a r=>exact e
theorem qau:∀ {l:List Value},qb9 l=true->∃ f:List Addr,l=f.map Value.ref++[.type "ValueError",.type "Exception",.type "BaseException",.type "object"]
 | [],e=>by cases e
 | .ref c::r,e=>by
  obtain ⟨f,q⟩:=qau (qct e);exact ⟨c::f,by rw [q];rfl⟩
 | .type a::r,e=>by
  match r,e with
  | [.type b,.type c,.type d],e =>
   simp only [qb9,yX,Yk] at e;obtain ⟨⟨⟨rfl,rfl⟩,rfl⟩,rfl⟩:=e;exact ⟨[],rfl⟩
theorem refuse_exc (self:Value) (e:qb9 l=true):refuseLoop self "__setattr__" l=pure ():=by
 obtain ⟨a,rfl⟩:=qau e
 induction a with
 | nil=>exact PySem.F.store_ValueError.passes self
 | cons c a ih=>rw [YG,kP,refuseLoop_ref];exact ih (qct e)
theorem qav (e:qb9 l=true) (h:T∈["ValueError","Exception","BaseException","object"]):l.contains (.type T)=true:=by
 obtain ⟨a,rfl⟩:=qau e;rw [List.contains_iff_mem];refine yL _ ?_;simp only [yv,yG,Yl] at h ⊢;rcases h with rfl | rfl | rfl | rfl<;>simp
section
variable {prog:Program} {w:World} {A:Around} {E:Value->Shared->Prop} {s:Shared} {K:yg} {x C:Addr} {name:Str} {v:Value} {R:Result->Shared->Prop}
theorem xosa (X:K.In s.heap) (I:PySem.W.InstAt s.heap x ox C od) (c:XAt K C) (n:NoAttr K C name)
  (h:wpAny (model prog w) A.in1 (Builtin.ObjectAttr.storeInOwnDict (.ref x) (.ref C) (.str name tk) name v false)
   (fun b s'=>match b with | .done f=>R (.ok f) s' | .again c'=>c'.quiet=true/\codeAny (model prog w) A c' R s') (fun e s'=>R (.error e) s') s) :
  codeAny (model prog w) A (.call (.builtin "object.__setattr__") ⟨[.ref x,.str name tk,v],[]⟩) R s:=by
 have a:=PySem.F.store_object;obtain ⟨d,hc,i⟩:=xN c.mr;have g:PySem.W.Looks (model prog w) s.heap (mroOf (.ref C)) d.mro:=(ky X hc).andThen .now;refine xI a.slot.plain a.entry (@PySem.W.check_slot (model prog w) _ _ s "object.__setattr__" "object" "__setattr__" (.ref x) [.str name tk,v] [] _ a.kind a.split (I.type.andThen (xq X c.ob)) (a.args (.ref x) (.str name tk) v) ?_);rw [PySem.W.osa_eq,refuse_eq];refine yr (yr (I.type.here (yr (g.here ?_))));rw [refuse_exc _ i];refine yw (yr (I.type.here (yr ((YO X n).here (yr (yw ?_))))));exact h
theorem xset (X:K.In s.heap) (m:s.heap.get? x=some ⟨.ref C,none,.fields vs,#[]⟩) (c:XAt K C) (n:NoAttr K C name) {Q:Unit->Shared->Prop}
  (h:∀ h',h'.get? x=some ⟨.ref C,some s.heap.objs.size,.fields vs,#[]⟩->h'.Ns1 s.heap.objs.size (fun y=>if y=name then some v else none)->(∀ b o,b≠x->s.heap.get? b=some o->h'.get? b=some o) ->
   Q () { s with heap:=h',toks:=s.toks+2 }):wpAny (model prog w) A (setAttr (.ref x) name v) Q E s:=by
 have I:PySem.W.InstAt s.heap x ⟨.ref C,none,.fields vs,#[]⟩ C none:=⟨m,rfl,rfl,YM⟩;obtain ⟨J,hc,F⟩:=xN c.hd;refine PySem.W.set_plain X I c.sa (xosa (s:={ s with toks:=s.toks+1 }) X I c n ?_);refine yr (yw (yr (yr (wpAny_loadPart m (yr ((ky X hc).here (s:={ s with toks:=s.toks+1 }) ?_))))));rw [F];obtain ⟨a,g,L,tk,N⟩:=s;show wpAny _ _ (alloc { cls:=.type "dict",data:=.dict #[] }>>=fun d=>update x (fun o=>{ cls:=o.cls,dict:=some d,data:=o.data,slots:=o.slots })>>=fun _=>pure (some d)) _ _ _;have l:x≠a.objs.size:=yI (yH m);have i:=yu { cls:=.type "dict",data:=.dict #[] } m;refine yr (wpAny_alloc' (yr (wpAny_update' i (yw ?_))));have j:=YC (fun o:Obj=>{ cls:=o.cls,dict:=some a.objs.size,data:=o.data,slots:=o.slots }) i rfl;have f:=(Heap.get?_update_ne (a.push { cls:=.type "dict",data:=.dict #[] }) a.objs.size x (fun o:Obj=>{ cls:=o.cls,dict:=some a.objs.size,data:=o.data,slots:=o.slots }) l.symm).trans (kH rfl rfl);generalize H:(a.push { cls:=.type "dict",data:=.dict #[] }).update x (fun o:Obj=>{ cls:=o.cls,dict:=some a.objs.size,data:=o.data,slots:=o.slots })=h2 at j f ⊢;have nd:h2.Ns a.objs.size (fun _=>none):=⟨_,#[],_,f,rfl,fun e G=>absurd G (by simp),fun _=>rfl⟩;show wpAny _ _ (Builtin.ObjectAttr.storeInDict a.objs.size (.str name tk) name v) _ _ _;unfold Builtin.ObjectAttr.storeInDict Builtin.ObjectAttr.newKeyGuard;refine yr (yw (yr (wpAny_nsSet1 (Heap.Ns1.of_empty nd) fun h' u z=>?_)));obtain ⟨M,p,B,t,r,q⟩:=u.count (PySem.Within.cons name v PySem.Within.nil);have hz:p.size<=sizeLine:=yi q (by rw [yC,YX,YL];omega);refine yr (wpAny_lookBehind t (by rw [r];exact pastItsLine_dict (kI hz)) ?_);refine yw (h h' ((z.2 x l).trans j) u fun b o D e=>(z.2 b (yI (yH e))).trans ?_);rw [<- H];exact (Heap.get?_update_ne _ _ _ _ D).trans (yu _ e)
theorem ve_check {Q:Unit->Shared->Prop} (X:K.In s.heap) (c:XAt K C) (l:s.heap.get? x=some ox) (a:ox.cls=.ref C) (q:Q () s) :
  wpAny M A (checkBuiltinCall "ValueError.__init__" ⟨[.ref x,u],[]⟩) Q E s:=by
 have F:=Y3;have b:=F.noStar;obtain ⟨z,D,N,bs,h,f,sn,sub,m,i,n,r,t,v,w,y,e,j⟩:=qdg X c.xc;have d:(Value.ref C::h).contains (.type "ValueError")=true:=by rw [Yt,qav j (by simp),kD]
 obtain ⟨p,g,o,tk,B⟩:=s;simp only [checkBuiltinCall,F.initKind,F.initSplit,F.initRow]
 repeat (first | (with_reducible refine YH l ?_;rw [a]) | with_reducible refine YH e ?_ | (with_reducible refine xr e ?_;rw [d]) | wp_step)
 exact q
noncomputable abbrev xfs (a0:Addr):Array Value:=#[.ref a0,.none,.none,.none,.bool false,.none]
theorem xbase_init (X:K.In s.heap) (a:s.heap.get? x=some ⟨.ref C,none,.fields (xfs a0),#[]⟩) (c:XAt K C) {Q:Value->Shared->Prop}
  (h:∀ h' d,h'.get? x=some ⟨.ref C,none,.fields (xfs d),#[]⟩->(∀ b o,b≠x->s.heap.get? b=some o->h'.get? b=some o)->Q .none { s with heap:=h' }) :
  wpAny (model prog w) A (call (.builtin "ValueError.__init__") [.ref x,u]) Q E s:=by
 have F:=Y3;refine xW (xI F.init.plain F.initEntry (ve_check X c a rfl ?_));obtain ⟨i,g,j,tk,l⟩:=s
 wp_walk
 refine h _ i.objs.size ?_ fun b o f e=>?_
 ·rw [YC _ (yu _ a) rfl];rfl
 ·rw [YB _ _ (Yh f)];exact yu _ e
end
theorem qdi (e:qb9 l=true) (h:T∉["ValueError","Exception","BaseException","object"]):l.contains (.type T)=false:=by
 obtain ⟨b,rfl⟩:=qau e;refine Bool.eq_false_iff.mpr fun q=>?_;rcases yD.mp (List.contains_iff_mem.mp q) with z | z
 ·obtain ⟨a,_,q⟩:=Yb.mp z;cases q
 ·simp only [yv,yG,Yl,Value.type.injEq] at z h;exact h z
section
variable {prog:Program} {w:World} {A:Around} {R:Result->Shared->Prop} {E:Value->Shared->Prop} {h:Heap} {g:Array GenState} {d:Drawn} {t:Nat} {os:OsState}
variable {nm q:Str} {C N:Addr} {bs bm:List Value} {hdct:Bool} {sn:List Str} {sub:List Value} {ab:Bool} {col:Option Bool} {dd:Option Addr} {k0 k1 k2 k3 k5:Option Value}
theorem xnew_check {rest:List Value} {Q:Unit->Shared->Prop} (b:h.get? C=some (excClassObj nm q C N bs bm hdct sn sub ab col dd k0 k1 k2 k3 k5 "ValueError.__new__")) (e:qb9 bm=true) (f:Q () ⟨h,g,d,t,os⟩) :
  wpAny M A (checkBuiltinCall "ValueError.__new__" ⟨.ref C::rest,[]⟩) Q E ⟨h,g,d,t,os⟩:=by
 have F:=Y3;have a:(Value.ref C::bm).contains (.type "ValueError")=true:=by rw [Yt,qav e (by simp),kD]
 have c:=F.noStar;simp only [checkBuiltinCall,F.newKind,F.newSplit,F.newRow]
 repeat (first | refine YH b ?_ | (refine xr b ?_;rw [a]) | refine wpAny_staticBase_exc b ?_ | refine wpAny_madeBy_exc b ?_ | simp only [bne_self_eq_false,YQ,Xc] | wp_step)
 exact f
theorem xnew {rest:List Value} (b:h.get? C=some (excClassObj nm q C N bs bm hdct sn sub ab col dd k0 k1 k2 k3 k5 "ValueError.__new__")) (j:qb9 bm=true) (l:rest.length<=sizeLine)
  (m:R (.ok (.ret (.ref (h.objs.size+1)))) ⟨(h.push { cls:=.type "tuple",data:=.seq rest.toArray }).push { cls:=.ref C,data:=.fields (xfs h.objs.size) },g,d,t,os⟩) :
  codeAny (model prog w) A (.builtin "ValueError.__new__" ⟨.ref C::rest,[]⟩) R ⟨h,g,d,t,os⟩:=by
 have F:=Y3;have i:=F.ends;have e:(Value.ref C::bm).contains (.type "ValueError")=true:=by rw [Yt,qav j (by simp),kD]
 have c:(Value.ref C::bm).contains (.type "AttributeError")=false:=by rw [Yt,qdi j (by simp)];rfl
 have f:(Value.ref C::bm).contains (.type "NameError")=false:=by rw [Yt,qdi j (by simp)];rfl
 refine codeAny_builtinAt F.entry ?_;unfold Builtin.«BaseException.__new__»;refine PySem.wpAt_bind ?_;show PySem.wpAt _ _ _ (stack>>=_) _ _ _;refine PySem.wpAt_bind (PySem.wpAt_stack fun n a=>PySem.wpAt_of_wpAny ?_)
 wp_walk
 refine PySem.wpAt_of_wpAny ?_;rw [F.owner]
 repeat (first | with_reducible refine wpAny_madeHere_exc F.canon b ?_ | with_reducible refine YH b ?_ | (with_reducible refine xr b ?_;first | rw [e] | rw [c] | rw [f]) | wp_step)
 show R _ _;rw [YU];exact m
theorem xtype_call {K:yg} {rest:List Value} {Q:Fin->Shared->Prop} (X:K.In h) (c:h.get? C=some (excClassObj nm q C N bs bm hdct sn sub ab col dd k0 k1 k2 k3 k5 "ValueError.__new__")) (m:qb9 bm=true)
  (s:PySem.W.findIn K (.ref C) "__init__"=some (some (.ref f))) (p:PySem.W.isFn K (.ref f)=true) (a:rest.length<=sizeLine)
  (u:wpAny (model prog w) A (call (.ref f) (.ref (h.objs.size+1)::rest)) (fun r s'=>r=.none/\Q (.done (.ret (.ref (h.objs.size+1)))) s') E
   ⟨(h.push { cls:=.type "tuple",data:=.seq rest.toArray }).push { cls:=.ref C,data:=.fields (xfs h.objs.size) },g,d,t,os⟩) :
  wpAny (model prog w) A (Builtin.«type.__call__» ⟨.ref C::rest,[]⟩) Q E ⟨h,g,d,t,os⟩:=by
 have F:=Y3
 repeat (first | with_reducible refine YH c ?_ | with_reducible refine wpAny_madeBy_exc c ?_ | wp_step)
 refine codeAny_call_builtin_code (Code.quiet_builtin _ F.quiet) (xnew_check c m (xnew c m a ?_));show wpAny _ _ _ _ _ _;have up:∀ b o,h.get? b=some o->((h.push { cls:=.type "tuple",data:=.seq rest.toArray }).push { cls:=.ref C,data:=.fields (xfs h.objs.size) }).get? b=some o:=fun b o e=>yu _ (yu _ e);have hC1:=up _ _ c;have i:((h.push { cls:=.type "tuple",data:=.seq rest.toArray }).push { cls:=.ref C,data:=.fields (xfs h.objs.size) }).get? (h.objs.size+1)=some { cls:=.ref C,data:=.fields (xfs h.objs.size) }:=kH (by rw [YU]) rfl;have l:K.In ((h.push { cls:=.type "tuple",data:=.seq rest.toArray }).push { cls:=.ref C,data:=.fields (xfs h.objs.size) }):=X.keeps up;have j:(Value.ref C::bm).contains (.ref C)=true:=by simp
 unfold isInstance
 repeat (first | with_reducible refine YH i ?_ | (with_reducible refine xr hC1 ?_;rw [j]) | wp_step)
 show wpAny _ _ (typeLookup (.ref C) _) _ _ _;refine (YO l s).at (Ys (yr ((PySem.W.bind_fn l _ (Yk.mp p)).at (yr (YF u (fun r s' v=>?_) fun _ _ z=>z)))));obtain ⟨rfl,n⟩:=v
 wp_walk
 exact n
theorem xcall {K:yg} {rest:List Value} {Q:Value->Shared->Prop} (X:K.In s.heap) (c:XAt K C) (i:PySem.W.findIn K (.ref C) "__init__"=some (some (.ref f))) (e:PySem.W.isFn K (.ref f)=true) (a:rest.length<=sizeLine)
  (l:wpAny (model prog w) (A.under (.builtin "type.__call__" ⟨.ref C::rest,[]⟩)) (call (.ref f) (.ref (s.heap.objs.size+1)::rest)) (fun r s'=>r=.none/\Q (.ref (s.heap.objs.size+1)) s') E
   { s with heap:=(s.heap.push { cls:=.type "tuple",data:=.seq rest.toArray }).push { cls:=.ref C,data:=.fields (xfs s.heap.objs.size) } }) :
  wpAny (model prog w) A (call (.ref C) rest) Q E s:=by
 obtain ⟨nm,p,N,bs,bm,hdct,sn,sub,ab,col,dd,k0,k1,k2,k3,k5,b,j⟩:=qdg X c.xc;obtain ⟨h,g,d,t,os⟩:=s;have m:=tc_lookup;have n:=tc_bind (.ref C);have o:(⟨h,g,d,t,os⟩:Shared).TypeIs (.ref C) "type":=⟨_,b,rfl⟩;refine xW (codeAny_of_tree ?_);show wpAny _ _ (callAny (.ref C) _) _ _ _
 repeat (any_goals (first | assumption | with_reducible refine YH b ?_ | wp_step))
 refine ⟨rfl,?_⟩;exact codeAny_call_builtin_at (Code.quiet_builtin _ (by decide +kernel)) entry_typeCall (wpAny_check_type_call_sub b (xtype_call X b j i e a l))
end
noncomputable def XN (e C:Addr) (dx:Option Addr):HO:=.ext fun h=>∃ a0,h.get? e=some ⟨.ref C,dx,.fields (xfs a0),#[]⟩
noncomputable def XO (e C:Addr) (dx:Option Addr):HO:=.ext fun h=>∃ vs,h.get? e=some ⟨.ref C,dx,.fields vs,#[]⟩
theorem XN.ok (q:h.get? e=some ⟨.ref C,dx,.fields (xfs a0),#[]⟩):ObjOk P w H h e (XN e C dx):=
 ⟨⟨a0,q⟩,⟨_,q⟩,fun _ _ ⟨a,x⟩ k=>⟨a,k _ x⟩⟩
theorem XO.ok (q:h.get? e=some ⟨.ref C,dx,.fields vs,#[]⟩):ObjOk P w H h e (XO e C dx):=
 ⟨⟨vs,q⟩,⟨_,q⟩,fun _ _ ⟨a,x⟩ k=>⟨a,k _ x⟩⟩
def IsX (H:Hp) (e C:Addr) (dx:Option Addr):Prop:=H e=some (XN e C dx)\/H e=some (XO e C dx)
theorem IsX.get (q:IsX H e C dx) (b:HOk P w H h):∃ vs,h.get? e=some ⟨.ref C,dx,.fields vs,#[]⟩:=by
 rcases q with q | q
 ·obtain ⟨⟨a,x⟩,_⟩:=(show ObjOk P w H h e (XN e C dx) from b e _ q);exact ⟨_,x⟩
 ·obtain ⟨⟨a,x⟩,_⟩:=(show ObjOk P w H h e (XO e C dx) from b e _ q);exact ⟨_,x⟩
theorem upd_id {o:HO} (h:H a=some o):upd H a o=H:=by
 funext b;unfold upd;split
 ·rename_i e;subst e;exact h.symm
 ·rfl
section
variable {X:Cx} {pins:List (Addr×Obj)} {σ:St} {H:Hp} {s:Shared} {e C:Addr} {dx:Option Addr}
theorem qeQ (I:Inv X pins σ H s) {d:Addr} {fs:List (Str×V)} (h:H d=some (.xd fs)):∃ (od:Obj) (a:Str->Option Value),s.heap.get? d=some od/\(∀ name,PySem.W.lookIn name od=some (a name))/\∀ f,RelO (fs.lookup f) (a f):=by
 obtain ⟨a,n,r⟩:=(show ObjOk X.prog X.w H s.heap d (.xd fs) from I.hok d _ h);obtain ⟨od,h1,b⟩:=qcf n;exact ⟨od,a,h1,b,r⟩
end
section
variable {X:Cx} {pins:List (Addr×Obj)} {σ:St} {H:Hp} {s:Shared} {a d:Addr} {h':Heap} {o u:HO} {t':Nat}
theorem Inv.both (I:Inv X pins σ H s) (i:Mut (H a)) (l:s.heap.objs.size<=d) (k:∀ b v,b≠a->s.heap.get? b=some v->h'.get? b=some v) (m:∃ v,h'.get? a=some v)
  (p:ObjOk X.prog X.w (upd (upd H d u) a o) h' a o) (t:ObjOk X.prog X.w (upd (upd H d u) a o) h' d u) (ne:d≠a):Inv X pins σ (upd (upd H d u) a o) { s with heap:=h',toks:=t' }:=by
 have nd:H d=none:=I.hok.fresh l;have g:∀ b q,H b=some q->¬ Mut (some q)->b≠a:=fun b q e x z=>by subst z;rw [e] at i;exact x i
 have j:∀ b,H b=none->b≠a:=fun b e z=>by subst z;rw [e] at i;exact i
 have big:∀ b v,s.heap.get? b=some v->b≠d:=fun b v e=>yI (yj (yH e) l);have up:∀ b q,H b=some q->b≠a->upd (upd H d u) a o b=some q:=fun b q e n=>by rw [qf n,qf (qH e nd)];exact e
 refine I.un ⟨fun b v e n _ _=>k b v (j b n) e,fun b v e n _ _=>⟨v.slots,k b v (j b n) e⟩,fun b v e n _=>by rw [qf (j b n),qf (big b v e)];exact n,fun b v e _=>?_,fun b xs e=>up b _ e (g b _ e fun z=>z),fun b q xs e=>up b _ e (g b _ e fun z=>z),
  fun b y e=>⟨#[],by rw [up b _ e (g b _ e fun z=>z)];simp⟩⟩ fun b q e=>?_
 ·by_cases f:b=a
  ·subst f;exact m
  ·exact ⟨v,k b v f e⟩
 ·by_cases f:b=a
  ·subst f;rw [qb] at e;cases e;exact p
  ·rw [qf f] at e;by_cases h:b=d
   ·subst h;rw [qb] at e;cases e;exact t
   ·rw [qf h] at e;refine (I.hok b q e).stay (fun c v hc r=>k c v ?_ r) (fun c r=>up c _ r (g c _ r fun z=>z)) fun c xs r=>up c _ r (g c _ r fun z=>z);rcases hc with rfl | hc
    ·exact f
    ·exact g c _ hc fun z=>z
end
def qfN (K:yg) (c:TE) (f:Str):TE:=fun σ H Q=>c σ H fun x b=>(∃ a C dx fs v,x=.ref a/\b a=some (.ins C dx fs)/\Cls K C/\NoAttr K C f/\fs.lookup f=some v/\Q v b) \/
 (∃ a C dx fs v,x=.ref a/\IsX b a C (some dx)/\XAt K C/\NoAttr K C f/\b dx=some (.xd fs)/\fs.lookup f=some v/\Q v b)
def qfO (K:yg) (d e:TE) (f:Str):TS:=fun D σ H=>e σ H fun y c=>d σ c fun x b=>(∃ a C dx fs,x=.ref a/\b a=some (.ins C dx fs)/\Cls K C/\NoAttr K C f/\fs.length<1000 /\
  D.nx σ (upd b a (.ins C dx (qE f y fs)))) \/
 (∃ a C,x=.ref a/\b a=some (XN a C none)/\XAt K C/\NoAttr K C f/\∀ dx,b dx=none->D.nx σ (upd (upd b dx (.xd [(f,y)])) a (XN a C (some dx))))
section
variable {X:Cx} {o e value:Expr} {f:Str} {pos pos':Pos} {ta tv:TE} {K:yg}
theorem qA (w:X.K=K) (A:PE X e ta) (y:attributeBase e f X.env (eval e X.env)=eval e X.env):PE X (.Attribute e f pos) (qfN K ta f):=by
 subst w;intro pins s σ H Q I h;refine attr_of y (thn (A pins s σ H _ I h) fun u F ⟨x,j,b,m,i⟩=>?_);rcases i with ⟨a,C,dx,fs,v,rfl,g,c,n,l,q⟩ | ⟨a,C,dx,fs,v,rfl,g,c,n,z,l,q⟩
 ·obtain rfl:u=Value.ref a:=m;exact getattr_ok b g c n l fun E G p d=>⟨v,j,p,d,q⟩
 ·obtain rfl:u=Value.ref a:=m;obtain ⟨vs,i⟩:=g.get b.hok;obtain ⟨od,D,h1,t,r⟩:=qeQ b z;obtain ⟨E,B,d⟩:=RelO.some_of (v:=v) (o:=D f) (by rw [<- l];exact r f);exact xget b.kIn (od:=some od) ⟨i,rfl,rfl,h1⟩ c (PySem.W.findObj_own c.hd n rfl (by rw [t,B])) (qcg d) ⟨v,j,b.tok _,d,q⟩
theorem jJ (J:X.K=K) (L:PE X o ta) (hv:PE X value tv) (N:swapsWith value (some (.Attribute o f pos')) pos.line X.env=pure false):PS X (.Assign [.Attribute o f pos'] value pos) (qfO K ta tv f):=by
 subst J;intro pins s σ H D I h;refine plainObj_wpAny_Assign_Attribute (thn (hv pins s σ H _ I h) fun u O ⟨y,A,B,z,q⟩=>thn (L pins O σ A _ B q) fun t i ⟨x,p,b,v,e⟩=>?_) N;rcases e with ⟨a,C,dx,fs,rfl,d,c,n,l,m⟩ | ⟨a,C,rfl,d,c,n,m⟩
 ·obtain rfl:t=Value.ref a:=v;exact setattr_ok b d c n l z fun P E=>⟨σ,_,E,m⟩
 ·obtain rfl:t=Value.ref a:=v;obtain ⟨⟨a0,e⟩,_⟩:=(show ObjOk X.prog X.w p i.heap a (XN a C none) from b.hok a _ d);refine xset b.kIn e c n fun h' r F G=>?_;have nd:p i.heap.objs.size=none:=b.hok.fresh (yh _);have ne:i.heap.objs.size≠a:=Yj (yH e);refine ⟨σ,_,b.both (o:=XN a C (some i.heap.objs.size)) (u:=.xd [(f,y)]) (by rw [d];exact YM) (yh _) G ⟨_,r⟩ (XN.ok r) ⟨_,F,fun g=>?_⟩ ne,m _ nd⟩;by_cases j:g=f
  ·subst j;simp only [List.lookup,xv,Xz];exact z
  ·have M:(g==f)=false:=Yx.mpr j;simp only [List.lookup,M,yy j];exact YM
end
def qd5 (C:Addr) (sp:Sp) (E:XK) (t:TA):TE:=fun σ H Q=>t σ H fun vs a=>vs.length<=1000/\∀ x,a x=none->sp (.ref x::vs) (upd a x (XN x C none)) (fun v b=>v=.non/\Q (.ref x) b) E
structure XMk (K:yg) (C f:Addr):Prop where
 at_:XAt K C
 init:PySem.W.findIn K (.ref C) "__init__"=some (some (.ref f))
 fn:PySem.W.isFn K (.ref f)=true
 kp:PySem.W.keepIn K (.ref C)=true
section
variable {X:Cx} {CX:CXT} {k:Nat} {f C:Addr} {fd:FuncData} {ps:List Str} {sp:Sp} {E:XK} {x m:Str} {p pos apos:Pos} {e o:Expr} {es:List Expr} {ta:TE} {t:TA}
theorem run_xmake {Q:VK} {vs:List V} (M:XMk X.K C f) (F:FnOk X.prog X.w X.K X.mg X.base CX k f fd ps sp) (B:Room (k+1) X.A) (y:Binds X.K fd ps [])
  (D:zJ CX X E) (I:Inv X pins σ H s) (r:Vals vs us) (i:vs.length<=1000) (h:∀ x,H x=none->sp (.ref x::vs) (upd H x (XN x C none)) (fun v n=>v=.non/\Q (.ref x) n) E) :
  wpAny (model X.prog X.w) X.A (call (.ref C) us) (EP X pins σ Q) X.xe s:=by
 have l:=h (s.heap.objs.size+1) (I.hok.fresh (Xo _));have up:∀ b o,s.heap.get? b=some o->((s.heap.push { cls:=.type "tuple",data:=.seq us.toArray }).push { cls:=.ref C,data:=.fields (xfs s.heap.objs.size) }).get? b=some o:=fun b o q=>yu _ (yu _ q);have d:((s.heap.push { cls:=.type "tuple",data:=.seq us.toArray }).push { cls:=.ref C,data:=.fields (xfs s.heap.objs.size) }).get? (s.heap.objs.size+1)=some ⟨.ref C,none,.fields (xfs s.heap.objs.size),#[]⟩:=kH (by rw [YU]) rfl;have g:=I.laid (a:=s.heap.objs.size+1) (o:=XN (s.heap.objs.size+1) C none) (t':=s.toks) up (Xo _) (XN.ok d);have m:Vals (V.ref (s.heap.objs.size+1)::vs) (Value.ref (s.heap.objs.size+1)::us):=.cons rfl r
 have hl:(Value.ref (s.heap.objs.size+1)::us++[]).length=ps.length:=by
  have q:=m.length;rw [F.len _ _ _ _ l] at q;rw [Yd];exact q.symm
 have j:us.length<=sizeLine:=by rw [<- r.length];exact Yc (qi i)
 refine xcall I.kIn M.at_ M.init M.fn j (xW (XR (F.run _ X.stack _ _ ⟨Value.ref (s.heap.objs.size+1)::us,[]⟩ (Value.ref (s.heap.objs.size+1)::us) _ _ E (B.make C us [])
  (g.env0.make C us []) (by have z:=y _ (Value.ref (s.heap.objs.size+1)::us) g.kIn hl;rw [Yd] at z;exact z) m l) fun r s' c=>?_))
 cases r with
 | error e=>exact D pins σ _ _ e s' g c
 | ok fl =>
  cases fl with
  | ret u =>
   obtain ⟨v,H',p,J,t,G⟩:=g.after c;subst t;exact ⟨J,⟨V.ref (s.heap.objs.size+1),H',p,rfl,G⟩⟩
  | next=>exact False.elim c
  | brk=>exact False.elim c
  | cont=>exact False.elim c
theorem pe_xmake (M:XMk X.K C f) (F:FnOk X.prog X.w X.K X.mg X.base CX k f fd ps sp) (m:Room (k+1) X.A) (j:Gl X x) (l:X.mg x=some (.ref C)) (g:Binds X.K fd ps []) (n:zJ CX X E)
  (d:PA X (e::es) t) (a:(x==("__debug__":Str))=false:=by decide) (i:starEach (e::es) X.env=(false,eval e X.env)::starEach es X.env:=by rfl) (b:(backTo pos (starEach es X.env)).any (·.1)=false:=by rfl) :
  PE X (.Call (.Name x p) (e::es) [] pos) (qd5 C sp E t):=by
 intro pins s σ H Q I h;refine xw (zH I j l ?_ a);refine Y9 (h₀:=X.base) I.ok.mod.kin M.kp (thn (d pos pins s σ H _ I h) fun us u ⟨vs,o,c,r,z,q⟩=>⟨c.kIn,?_⟩) i b;exact run_xmake M F m g n c r z q
structure CMeth (K:yg) (C:Addr) (m:Str) (f:Addr):Prop where
 rd:PySem.W.readsIn K C (.type "type")=true
 at_:PySem.W.findCls K (.ref C) (.type "type") m=some (.val (.ref f))
 ga:PySem.W.specialIn K (.ref C) "__getattribute__"=some (some (.builtin "type.__getattribute__"))
 kp:PySem.W.keepIn K (.ref f)=true
theorem pe_clsm (M:CMeth X.K C m f) (F:FnOk X.prog X.w X.K X.mg X.base CX k f fd ps sp) (n:Room k X.A) (j:Gl X x) (l:X.mg x=some (.ref C)) (i:Binds X.K fd ps []) (q:zJ CX X E) (g:PA X (e::es) t)
  (a:(x==("__debug__":Str))=false:=by decide) (c:starEach (e::es) X.env=(false,eval e X.env)::starEach es X.env:=by rfl) (b:(backTo pos (starEach es X.env)).any (·.1)=false:=by rfl)
  (o:eval (.Call (.Attribute (.Name x p) m apos) (e::es) [] pos) X.env=(do
   let ov <- eval (.Name x p) X.env
   standAt apos.atName
   let (f,first) <- holding [ov] (getMethod ov m pl)
   callWith pos f first (backTo pos (starEach (e::es) X.env)) (backToKw pos (keywordEach [] X.env))):=by rfl) :
  PE X (.Call (.Attribute (.Name x p) m apos) (e::es) [] pos) (qdP sp [] E t):=by
 intro pins s σ H Q I h;refine xy (pl:=pl) (zH I j l ?_ a) o;refine PySem.W.method_cls I.kIn M.ga (PySem.W.cls_value I.kIn M.rd M.at_ rfl ?_);refine Y9 (first:=[]) (h₀:=X.base) I.ok.mod.kin M.kp (thn (g pos pins _ σ H _ (I.tok (s.toks+1)) h) fun us y ⟨vs,v,d,r,u⟩=>⟨d.kIn,?_⟩) c b;exact qc9 F n i .nil q d r u
end
def qeR (K:yg) (t:TA):TE:=fun σ H Q=>t σ H fun vs b=>∃ a C y,vs=[.ref a,y]/\b a=some (XN a C none)/\XAt K C/\Q .non b
theorem ve_type:PySem.W.Looks M h (typeOf (.type "ValueError")) (.type "type"):=PySem.W.Looks.of_pure (by kernel_rfl)
theorem ve_opaque:PySem.W.Looks M h (opaqueClassAbove (.type "ValueError")) none:=PySem.W.Looks.of_pure (by kernel_rfl)
structure VInit (K:yg):Prop where
 ga:PySem.W.findIn K (.type "type") "__getattribute__"=some (some (.builtin "type.__getattribute__"))
 su:PySem.W.subIn K (.type "type") (.type "type")=some true
 at_:PySem.W.findCls K (.type "ValueError") (.type "type") "__init__"=some (.val (.builtin "ValueError.__init__"))
section
variable {X:Cx} {p pos apos:Pos} {e:Expr} {es:List Expr} {t:TA} {K:yg}
theorem k_vinit (E:X.K=K) (V:VInit K) (G:Gl X "ValueError") (L:X.mg "ValueError"=none) (hv:bootBuiltins "ValueError"=some (.type "ValueError")) (F:PA X (e::es) t)
  (l:starEach (e::es) X.env=(false,eval e X.env)::starEach es X.env:=by rfl) (j:(backTo pos (starEach es X.env)).any (·.1)=false:=by rfl)
  (M:eval (.Call (.Attribute (.Name "ValueError" p) "__init__" apos) (e::es) [] pos) X.env=(do
   let ov <- eval (.Name "ValueError" p) X.env
   standAt apos.atName
   let (f,first) <- holding [ov] (getMethod ov "__init__" pl)
   callWith pos f first (backTo pos (starEach (e::es) X.env)) (backToKw pos (keywordEach [] X.env))):=by rfl) :
  PE X (.Call (.Attribute (.Name "ValueError" p) "__init__" apos) (e::es) [] pos) (qeR K t):=by
 subst E;intro pins s σ H Q I h;refine xy (pl:=pl) (zI I G L hv ?_) M
 have i:∀ {d:Value×List Value->Shared->Prop},d (.builtin "ValueError.__init__",[]) { s with toks:=s.toks+1 }->wpAny (model X.prog X.w) X.A (getMethod (.type "ValueError") "__init__" pl) d X.xe s:=fun {d} q=>by
  unfold getMethod;refine yr ((ve_type.andThen (YO I.kIn V.ga)).here ?_);dsimp only;rw [yF PySem.W.canon_tga];refine yr (PySem.W.cls_open (hook:=none) I.kIn ve_opaque ve_type V.ga (PySem.W.Looks.now) V.su V.at_ (yw ?_));show wpAny _ _ (handedOut _) _ _ _;exact PySem.W.handed_on rfl (yw q)
 refine i ?_;have r:=F pos pins _ σ H _ (I.tok (s.toks+1)) h;rw [l] at r ⊢;refine xX (by show (false||(backTo pos (starEach es X.env)).any (·.1))=false;rw [j]<;>rfl) (kg ?_);refine thn r fun us z ⟨vs,m,b,O,a,C,y,B,g,c,q⟩=>?_;subst B;obtain ⟨u,v,rfl,P,S⟩:=qeC O;cases P;obtain ⟨⟨a0,N⟩,_⟩:=(show ObjOk X.prog X.w m z.heap a (XN a C none) from b.hok a _ g);refine xbase_init b.kIn N c fun h' R n D=>?_;have J:=b.write (x:=a) (e:=a) (o:=XN a C none) (t':=z.toks) (by rw [g];exact YM) (.inl rfl) D ⟨_,n⟩ (XN.ok n);rw [upd_id g] at J;exact ⟨.non,m,J,rfl,q⟩
end
structure Keep (fs zs:List Addr) (h h':Heap):Prop where
 keep:∀ b o,h.get? b=some o->b∉zs->b∉fs->h'.get? b=some o
 slot:∀ b o,h.get? b=some o->b∉zs->b∈fs->∃ sl,h'.get? b=some { o with slots:=sl }
structure Trc (h:Heap) (e:Addr) (C:Value) (dx:Option Addr) (T:Addr) (fl:Value):Prop where
 ex:∃ vs,h.get? e=some ⟨C,dx,.fields vs,#[]⟩/\vs[1]?=some (.ref T)/\vs[2]?=some .none
 tb:∃ ts,h.get? T=some ⟨.type "traceback",none,.fields ts,#[]⟩/\ts[3]?=some fl
 ne:T≠e
section
variable {M:Model} {A:Around} {E:Value->Shared->Prop} {s:Shared} {base:Heap} {env:Env} {outer:List Env} {L e:Addr} {C:Value} {dx:Option Addr} {vs:Array Value}
theorem qeS {d:Value} {p:Bool} {Q:Unit->Shared->Prop} (t:A.frames=some (env::outer)) (hl:s.heap.FunFrames base (env::outer)) (G:env.frame=some L) (x:s.heap.get? e=some ⟨C,dx,.fields vs,#[]⟩) (hsz:1<vs.size) (D:vs[2]?=some .none)
  (h:∀ h' T,s.heap.objs.size<=T->Trc h' e C dx T (rawInt L)->Keep (frs (env::outer)) [e] s.heap h'->Q () { s with heap:=h' }) :
  wpAny M A (do let a <- frameOf env;let pl <- entryPlaceOf L p;let b <- EntryCells.newEntry d a .none (rawInt L) .none pl;setField (.ref e) 1 b) Q E s:=by
 have l:e∉frs (env::outer):=fun H=>by
  obtain ⟨_,o,B,u⟩:=hl.mem H;rw [x] at B;cases B;exact u vs rfl
 refine yr (wpAny_frameOf_fun t hl G fun c n=>yr (wpAny_entryPlaceOf fun pl m=>?_));unfold EntryCells.newEntry newFields;refine yr (xH ?_ (m.sizeOk5 _ _ _ _ _));have i:c.get? e=some ⟨C,dx,.fields vs,#[]⟩:=(n.2.1 e l).trans x;generalize v:([d,.ref L,.none,rawInt L,.none]++(if pl.isEmpty then List.replicate 6 Value.none else pl)).toArray=w;have F:w[3]?=some (rawInt L):=by rw [<- v];first | (simp;done) | (rcases m with rfl | ⟨_,_,_,_,_,_,_,rfl⟩<;>simp)
 have j:=yu (h:=c) { cls:=.type "traceback",dict:=none,data:=.fields w } i;have g:c.objs.size≠e:=Yj (yH i);refine wpAny_setField j rfl hsz (h _ c.objs.size (XJ n.1.symm) ⟨⟨vs.setIfInBounds 1 (.ref c.objs.size),?_,by simp [hsz],by rw [Array.getElem?_setIfInBounds_ne (by decide)];exact D⟩,⟨w,?_,F⟩,g⟩ ⟨fun b o q r y=>?_,fun b o q r y=>?_⟩)
 ·rw [YC _ j rfl];rfl
 ·rw [YB _ _ (Yh g)];exact yV c rfl
 ·have f:b≠e:=fun z=>r (by simp [z]);rw [YB _ _ (Yh f)];exact yu _ ((n.2.1 b y).trans q)
 ·have f:b≠e:=fun z=>r (by simp [z]);obtain ⟨I,z⟩:=n.2.2 b o q;exact ⟨I,by rw [YB _ _ (Yh f)];exact yu _ z⟩
theorem qcu {Q:Unit->Shared->Prop} (a:A.frames=some (env::outer)) (hl:s.heap.FunFrames base (env::outer)) (c:env.frame=some L) (b:s.heap.get? e=some ⟨C,dx,.fields vs,#[]⟩) (h1:vs[1]?=some .none) (d:vs[2]?=some .none)
  (h:∀ h' T,s.heap.objs.size<=T->Trc h' e C dx T (rawInt L)->Keep (frs (env::outer)) [e] s.heap h'->Q () { s with heap:=h' }):wpAny M A (noteFrame (.ref e) env) Q E s:=by
 unfold noteFrame;simp only [c];refine yr (Y7 b rfl h1 ?_);rw [yy (by decide)];exact qeS a hl c b (Y4.mp h1).1 d h
theorem qdj {T:Addr} {Q:Unit->Shared->Prop} (i:A.frames=some (env::outer)) (hl:s.heap.FunFrames base (env::outer)) (u:env.frame=some L) (t:Trc s.heap e C dx T .none)
  (h:∀ h' f,s.heap.objs.size<=f->Trc h' e C dx f (rawInt L)->Keep (frs (env::outer)) [e,T] s.heap h'->Q () { s with heap:=h' }):wpAny M A (noteFrame (.ref e) env) Q E s:=by
 obtain ⟨⟨vs,r,h1,v⟩,⟨x,g,p⟩,l⟩:=t;unfold noteFrame;simp only [u];refine yr (Y7 r rfl h1 ?_);rw [yF (show (Value.ref T != Value.none)=true from by simp)];refine yr (Y7 g rfl p ?_);rw [yy (show ¬ ((Value.none==rawInt L)=true) from by simp [rawInt])];refine yr (wpAny_setField g rfl (Y4.mp p).1 ?_);have a:∀ b,b≠T->(s.heap.update T (Obj.mapFields (·.setIfInBounds 3 Value.none))).get? b=s.heap.get? b:=fun b c=>YB _ _ (Yh c);have n:(s.heap.update T (Obj.mapFields (·.setIfInBounds 3 Value.none))).objs.size=s.heap.objs.size:=Heap.size_after_update ..;refine qeS (s:={ s with heap:=s.heap.update T (Obj.mapFields (·.setIfInBounds 3 Value.none)) }) i (hl.of_keeps fun b o c m=>?_) u ((a e (Yh l)).trans r) (Y4.mp h1).1 v fun h' f w t' k=>?_
 ·have d:b≠T:=fun q=>by rw [q,g] at c;cases c;exact m x rfl
  exact ⟨o,(a b d).trans c,rfl⟩
 ·refine h h' f (by rw [<- n];exact w) t' ⟨fun b o q c j=>?_,fun b o q c j=>?_⟩
  ·have d:b≠T:=fun z=>c (by simp [z]);exact k.keep b o ((a b d).trans q) (fun z=>c (by simp only [yA] at z;simp [z])) j
  ·have d:b≠T:=fun z=>c (by simp [z]);exact k.slot b o ((a b d).trans q) (fun z=>c (by simp only [yA] at z;simp [z])) j
theorem qbk {T:Addr} {Q:Unit->Shared->Prop} (t:Trc s.heap e C dx T fl) (h:∀ h',Trc h' e C dx T .none->(∀ b o,b≠T->s.heap.get? b=some o->h'.get? b=some o)->h'.objs.size=s.heap.objs.size->Q () { s with heap:=h' }) :
  wpAny M A (setFlight (.ref e) none) Q E s:=by
 obtain ⟨⟨vs,f,h1,i⟩,⟨g,d,j⟩,c⟩:=t;have a:3<g.size:=(Y4.mp j).1;unfold setFlight;refine yr (Y7 f rfl h1 ?_);rw [yF (show (Value.ref T != Value.none)=true from by simp)];refine wpAny_setField d rfl a (h _ ⟨⟨vs,?_,h1,i⟩,⟨g.setIfInBounds 3 .none,?_,by simp [a]⟩,c⟩ (fun b o l q=>?_) (Heap.size_after_update ..))
 ·rw [YB _ _ c];exact f
 ·rw [YC _ d rfl];rfl
 ·rw [YB _ _ (Yh l)];exact q
end
def CX1 (P:Program) (w:World):CXT:=fun b H s E c s'=>∃ (a C:Addr) (dx:Option Addr) (T:Addr) (H':Hp),c=.ref a/\s'.os=s.os/\AllBare s'.gens/\Un (frs b) [] H H' s.heap s'.heap/\HOk P w H' s'.heap /\
 H' a=some (XO a C dx)/\Trc s'.heap a (.ref C) dx T .none/\s.heap.objs.size<=T/\H' T=none/\E (.ref C) dx H'
section
variable {X:Cx} {pins:List (Addr×Obj)} {σ:St} {H:Hp} {s:Shared}
theorem qbW {T:Addr} (I:Inv X pins σ H s) (g:H a=some (XO a C dx)) (k:Keep (frs X.stack) zs s.heap h') (hz:∀ b∈zs,b=a\/H b=none) (t:Trc h' a (.ref C) dx T fl):HOk X.prog X.w H h':=fun b u e=>by
 by_cases f:b=a
 ·subst f;rw [g] at e;cases e;obtain ⟨vs,q,_⟩:=t.ex;exact XO.ok q
 ·have d:∀ c o,H c=some o->c≠a->c∉zs/\c∉frs X.stack:=fun c o q n=>⟨fun z=>(hz c z).elim n fun y=>(by rw [y] at q;cases q),fun z=>(by have y:=I.stkFree c z;rw [y] at q;cases q)⟩;refine (I.hok b u e).stay (fun c v hc r=>?_) (fun _ q=>q) fun _ _ q=>q;rcases hc with rfl | hc
  ·exact k.keep c v r (d c _ e f).1 (d c _ e f).2
  ·have n:c≠a:=fun z=>by rw [z,g] at hc;cases hc
   exact k.keep c v r (d c _ hc n).1 (d c _ hc n).2
theorem qeT {T:Addr} (I:Inv X pins σ H s) (i:X.ex=[]) (u:H a=some (XO a C dx)) (k:Keep (frs X.stack) zs s.heap h') (hz:∀ b∈zs,b=a\/X.s₀.heap.objs.size<=b) (t:Trc h' a (.ref C) dx T fl) :
  Un X.fs [] X.H₀ H X.s₀.heap h':=by
 have B:=I.base;rw [i] at B;have j:∀ b o,X.s₀.heap.get? b=some o->b≠X.env.locals:=fun b o e=>yI (yj (yH e) I.ok.above);have m:∀ b o,X.s₀.heap.get? b=some o->b≠a->b∉zs:=fun b o e n z=>(hz b z).elim n fun y=>absurd (yj (yH e) y) (Yy _);have r:∀ b,H b=none->b≠a:=fun b n z=>by rw [z,u] at n;cases n
 have l:∀ b o,X.s₀.heap.get? b=some o->b∉X.fs->b∉frs X.stack:=fun b o e n z=>(yv.mp (I.stkSub b z)).elim (j b o e) n;refine ⟨fun b o e n c d=>?_,fun b o e n c d=>?_,B.free,fun b o e d=>?_,B.tups,B.frzs,B.tbls⟩
 ·exact k.keep b o (B.keep b o e n c d) (m b o e (r b (B.free b o e n d))) (l b o e c)
 ·obtain ⟨w,q⟩:=B.slot b o e n c d;have h:=m b o e (r b (B.free b o e n d));by_cases f:b∈frs X.stack
  ·obtain ⟨g,p⟩:=k.slot b _ q h f;exact ⟨g,p⟩
  ·exact ⟨w,k.keep b _ q h f⟩
 ·obtain ⟨v,q⟩:=B.there b o e d;by_cases c:b=a
  ·subst c;obtain ⟨vs,z,_⟩:=t.ex;exact ⟨_,z⟩
  ·have h:=m b o e c;by_cases f:b∈frs X.stack
   ·obtain ⟨g,p⟩:=k.slot b _ q h f;exact ⟨_,p⟩
   ·exact ⟨v,k.keep b _ q h f⟩
end
structure XOk (X:Cx) (EK:St->XK):Prop where
 pass:∀ (pins:List (Addr×Obj)) (σ:St) (H:Hp) (s:Shared) (e:Value) (s':Shared),Inv X pins σ H s->CX1 X.prog X.w X.stack H s (EK σ) e s'->X.xe e s'
 rais:∀ (pins:List (Addr×Obj)) (σ:St) (H:Hp) (s:Shared) (a C:Addr) (dx:Option Addr),Inv X pins σ H s->H a=some (XN a C dx)->EK σ (.ref C) dx (upd H a (XO a C dx))->X.xe (.ref a) s
 calm:X.calm=true
section
variable {P:Program} {w:World} {K:yg} {mg:Str->Option Value} {base:Heap} {N:List Str} {qual:Str} {scope:Scope} {f:Addr} {cd:Value} {A:Around} {outer:List Env} {s0:Shared} {H0:Hp} {E:XK}
theorem qdk:XOk (qeK (CX1 P w) P w K mg base N qual scope f cd A outer s0 H0 E) fun _=>E where
 calm:=rfl
 pass:=by
  intro pins σ H s R s' I p;obtain ⟨a,C,dx,T,H',rfl,F,m,un,D,h,t,O,B,q⟩:=p;have J:=I.call' (s':=s') (H':=H') (ch:=[]) F un D m (fun b z=>absurd z (by simp));show wpAny _ _ (leaving _ _) _ _ _;unfold leaving;refine yr (qdj (base:=base) J.ok.frames J.stack rfl t fun h' g i t' k=>?_);refine qbk (s:={ s' with heap:=h' }) t' fun v j r M=>?_;have G:s0.heap.objs.size<=s.heap.objs.size:=I.sz;have l:=J.sz
  have u:Keep (frs (envOfC qual scope s0.heap.objs.size f cd::outer)) [a,T,g] s'.heap v:=by
   refine ⟨fun b o e z n=>?_,fun b o e z n=>?_⟩
   ·simp only [yv,yG,Yl,Kk] at z;exact r b o z.2.2 (k.keep b o e (by simp [z.1,z.2.1]) n)
   ·simp only [yv,yG,Yl,Kk] at z;obtain ⟨L,y⟩:=k.slot b o e (by simp [z.1,z.2.1]) n;exact ⟨L,r b _ z.2.2 y⟩
  have d:H' g=none:=J.hok.fresh i;refine ⟨a,C,dx,g,H',rfl,J.os,m,qeT J rfl h u (fun b c=>?_) j,qbW J h u (fun b c=>?_) j,h,j,yi l i,d,q⟩
  ·simp only [yv,yG,Yl] at c;rcases c with rfl | rfl | rfl
   ·exact .inl rfl
   ·exact .inr (yi G O)
   ·exact .inr (yi l i)
  ·simp only [yv,yG,Yl] at c;rcases c with rfl | rfl | rfl
   ·exact .inl rfl
   ·exact .inr B
   ·exact .inr d
 rais:=by
  intro pins σ H s a C dx I e q;obtain ⟨⟨a0,p⟩,_⟩:=(show ObjOk _ _ H s.heap a (XN a C dx) from I.hok a _ e);have J:Inv _ pins σ (upd H a (XO a C dx)) s:=I.write (x:=a) (e:=a) (o:=XO a C dx) (h':=s.heap) (t':=s.toks) (by rw [e];exact YM) (.inl rfl) (fun _ _ _ q=>q) ⟨_,p⟩ (XO.ok p);show wpAny _ _ (leaving _ _) _ _ _;unfold leaving;refine yr (qcu (base:=base) J.ok.frames J.stack rfl p rfl rfl fun h' g i t' k=>?_);refine qbk (s:={ s with heap:=h' }) t' fun v j r M=>?_;have l:=J.sz;have h:upd H a (XO a C dx) a=some (XO a C dx):=qb
  have u:Keep (frs (envOfC qual scope s0.heap.objs.size f cd::outer)) [a,g] s.heap v:=by
   refine ⟨fun b o e z n=>?_,fun b o e z n=>?_⟩
   ·simp only [yv,yG,Yl,Kk] at z;exact r b o z.2 (k.keep b o e (by simp [z.1]) n)
   ·simp only [yv,yG,Yl,Kk] at z;obtain ⟨L,y⟩:=k.slot b o e (by simp [z.1]) n;exact ⟨L,r b _ z.2 y⟩
  have d:upd H a (XO a C dx) g=none:=J.hok.fresh i;refine ⟨a,C,dx,g,_,rfl,J.os,J.bare,qeT J rfl h u (fun b c=>?_) j,qbW J h u (fun b c=>?_) j,h,j,yi l i,d,q⟩
  ·simp only [yv,yG,Yl] at c;rcases c with rfl | rfl
   ·exact .inl rfl
   ·exact .inr (yi l i)
  ·simp only [yv,yG,Yl] at c;rcases c with rfl | rfl
   ·exact .inl rfl
   ·exact .inr d
end
def qeU (K:yg) (c:St->XK) (te:TE):TS:=fun _ σ H=>te σ H fun x b=>∃ a C dx,x=.ref a/\b a=some (XN a C dx)/\XAt K C/\c σ (.ref C) dx (upd b a (XO a C dx))
section
variable {X:Cx} {EK:St->XK} {e:Expr} {te:TE} {pos:Pos} {K:yg}
theorem xraise {x:Sem Value} {Q:Flow->Shared->Prop} (p:A.handled=none)
  (h:wpAny M A x (fun v b=>∃ a C dx a0,v=.ref a/\K.In b.heap/\XAt K C/\b.heap.get? a=some ⟨.ref C,dx,.fields (xfs a0),#[]⟩/\E (.ref a) b) E s):wpAny M A (raiseStmt env (some x) none) Q E s:=by
 unfold raiseStmt;refine yr (YF h (fun v b h1=>?_) fun _ _ z=>z);obtain ⟨a,C,dx,a0,rfl,f,c,o,n⟩:=h1;obtain ⟨G,I,N,bs,l,j,sn,sub,r,m,t,w,y,B,D,F,i,q⟩:=qdg f c.xc;have e:(Value.ref C::l).contains (.type "BaseException")=true:=by rw [Yt,qav q (by simp),kD]
 obtain ⟨u,g,d,tk,H⟩:=b
 repeat (first | with_reducible refine YH o ?_ | with_reducible refine YH i ?_ | (with_reducible refine xr i ?_;rw [e]) | wp_step)
 exact wpAny_raiseNew_none p n
theorem k_raise (j:X.K=K) (f:XOk X EK) (l:PE X e te):PS X (.Raise (some e) none pos) (qeU K EK te):=by
 subst j;intro pins s σ H D I h;rw [arm_exec_Raise];refine yr (Xh (xraise (K:=X.K) (I.ok.hd f.calm) ?_));refine yr (thn (l pins s σ H _ I h) fun v i ⟨x,d,b,n,a,C,dx,ex,g,c,q⟩=>yr (Xh (yw ?_)));subst ex;cases n;obtain ⟨⟨a0,m⟩,_⟩:=(show ObjOk _ _ d i.heap a (XN a C dx) from b.hok a _ g);exact ⟨a,C,dx,a0,rfl,b.kIn,c,m,f.rais pins σ d i a C dx b g q⟩
end
def qeV (sp:Sp) (a:St->XK) (t:TA):TE:=fun σ H Q=>t σ H fun vs b=>sp vs b Q (a σ)
def qeW (C:Addr) (m:Str) (sp:Sp) (c:St->XK) (e:TE) (t:TA):TE:=fun σ H Q=>e σ H fun x b=>∃ a dx fs,x=.ref a/\b a=some (.ins C dx fs)/\fs.lookup m=none/\t σ b fun vs d=>sp (x::vs) d Q (c σ)
def tMakeS (C:Addr) (sp:Sp) (b:St->XK) (t:TA):TE:=fun σ H Q=>t σ H fun vs a=>∀ x dx,a x=none->a dx=none->dx≠x ->
 sp (.ref x::vs) (upd (upd a dx (.own x)) x (.ins C dx [])) (fun v c=>v=.non/\Q (.ref x) c) (b σ)
structure MethOk (P:Program) (w:World) (K:yg) (mg:Str->Option Value) (base:Heap) (CX:CXT) (k:Nat) (C:Addr) (m:Str) (ps:List Str) (sp:Sp):Prop where
 ex:∃ f fd,FnOk P w K mg base CX k f fd ps sp/\Meth K C m f/\Binds K fd ps []
 cl:Cls K C
structure MakeOk (P:Program) (w:World) (K:yg) (mg:Str->Option Value) (base:Heap) (CX:CXT) (k:Nat) (C:Addr) (x:Str) (ps:List Str) (sp:Sp):Prop where
 ex:∃ f fd,FnOk P w K mg base CX k f fd ps sp/\Mk K C f/\Binds K fd ps []
 mg_:mg x=some (.ref C)
structure XMakeOk (P:Program) (w:World) (K:yg) (mg:Str->Option Value) (base:Heap) (k:Nat) (C:Addr) (x:Str) (ps:List Str) (sp:Sp):Prop where
 ex:∃ f fd,FnOk P w K mg base CX0 k f fd ps sp/\XMk K C f/\Binds K fd ps []
 mg_:mg x=some (.ref C)
section
variable {X:Cx} {EK:St->XK} {k:Nat} {f C:Addr} {fd:FuncData} {ps:List Str} {sp:Sp} {x m:Str} {p pos apos:Pos} {e o:Expr} {es:List Expr} {ta:TE} {t:TA}
theorem qd6 {Q:VK} {vs:List V} (F:FnOk X.prog X.w X.K X.mg X.base (CX1 X.prog X.w) k f fd ps sp) (g:Room k X.A) (d:Binds X.K fd ps []) (c:XOk X EK)
  (I:Inv X pins σ H s) (r:Vals vs us) (h:sp vs H Q (EK σ)):wpAny (model X.prog X.w) X.A (call (.ref f) us) (EP X pins σ Q) X.xe s:=by
 have hl:(us++[]).length=ps.length:=by rw [Yd,<- r.length];exact F.len _ _ _ _ h
 have b:=d s us I.kIn hl;rw [Yd] at b;refine xW (XR (F.run X.A X.stack s H ⟨us,[]⟩ us vs Q (EK σ) g I.env0 b r h) fun r s' a=>?_)
 cases r with
 | error e=>exact c.pass pins σ H s e s' I a
 | ok fl =>
  cases fl with
  | ret u=>exact I.after a
  | _=>exact False.elim a
theorem pe_defS (D:DefOk X.prog X.w X.K X.mg X.base (CX1 X.prog X.w) k x ps sp) (o:Room k X.A) (d:XOk X EK) (g:PA X (e::es) t) (l:Gl X x:=by rfl) (a:(x==("__debug__":Str))=false:=by decide)
  (j:starEach (e::es) X.env=(false,eval e X.env)::starEach es X.env:=by rfl) (b:(backTo pos (starEach es X.env)).any (·.1)=false:=by rfl):PE X (.Call (.Name x p) (e::es) [] pos) (qeV sp EK t):=by
 obtain ⟨f,fd,F,n,m,i⟩:=D.ex;intro pins s σ H Q I h;refine xw (zH I l n ?_ a);refine Y9 (h₀:=X.base) I.ok.mod.kin m (thn (g pos pins s σ H _ I h) fun us v ⟨vs,u,c,r,q⟩=>⟨c.kIn,?_⟩) j b;exact qd6 F o i d c r q
theorem pe_methS (D:MethOk X.prog X.w X.K X.mg X.base (CX1 X.prog X.w) k C m ps sp) (B:Room k X.A) (n:XOk X EK) (z:PE X o ta) (v:PA X (e::es) t)
  (c:starEach (e::es) X.env=(false,eval e X.env)::starEach es X.env:=by rfl) (b:(backTo pos (starEach es X.env)).any (·.1)=false:=by rfl)
  (E:eval (.Call (.Attribute o m apos) (e::es) [] pos) X.env=(do
   let ov <- eval o X.env
   standAt apos.atName
   let (f,first) <- holding [ov] (getMethod ov m pl)
   callWith pos f first (backTo pos (starEach (e::es) X.env)) (backToKw pos (keywordEach [] X.env))):=by rfl) :
  PE X (.Call (.Attribute o m apos) (e::es) [] pos) (qeW C m sp EK ta t):=by
 obtain ⟨f,fd,F,i,y⟩:=D.ex;intro pins s σ H Q I h;refine xy (pl:=pl) (thn (z pins s σ H _ I h) fun u L ⟨x,j,d,J,a,dx,fs,ex,p,l,q⟩=>?_) E;subst ex;obtain rfl:u=Value.ref a:=J;refine qaI d p D.cl i l ?_;refine Y9 (first:=[.ref a]) (h₀:=X.base) I.ok.mod.kin i.kp (thn (v pos pins L σ j _ d q) fun us N ⟨vs,M,g,r,G⟩=>⟨g.kIn,?_⟩) c b;exact qd6 (us:=.ref a::us) (vs:=.ref a::vs) F B y n g (.cons rfl r) G
theorem pe_xm (D:XMakeOk X.prog X.w X.K X.mg X.base k C x ps sp) (i:Room (k+1) X.A) (c:PA X (e::es) t) (h:Gl X x:=by rfl) (a:(x==("__debug__":Str))=false:=by decide)
  (g:starEach (e::es) X.env=(false,eval e X.env)::starEach es X.env:=by rfl) (b:(backTo pos (starEach es X.env)).any (·.1)=false:=by rfl):PE X (.Call (.Name x p) (e::es) [] pos) (qd5 C sp E0 t):=by
 obtain ⟨f,fd,F,M,d⟩:=D.ex;exact pe_xmake M F i h D.mg_ d qz c a g b
theorem qD (D:MethOk X.prog X.w X.K X.mg X.base CX0 k C m ps sp) (i:Room k X.A) (g:PE X o ta) (c:PA X (e::es) t)
  (b:starEach (e::es) X.env=(false,eval e X.env)::starEach es X.env:=by rfl) (a:(backTo pos (starEach es X.env)).any (·.1)=false:=by rfl)
  (j:eval (.Call (.Attribute o m apos) (e::es) [] pos) X.env=(do
   let ov <- eval o X.env
   standAt apos.atName
   let (f,first) <- holding [ov] (getMethod ov m pl)
   callWith pos f first (backTo pos (starEach (e::es) X.env)) (backToKw pos (keywordEach [] X.env))):=by rfl) :
  PE X (.Call (.Attribute o m apos) (e::es) [] pos) (qdQ C m sp [] E0 ta t):=by
 obtain ⟨f,fd,F,h,d⟩:=D.ex;exact pe_meth (pl:=pl) g D.cl h F i d .nil qz c b a j
theorem jj (D:MethOk X.prog X.w X.K X.mg X.base CX0 k C m ps sp) (d:Room k X.A) (b:PE X o ta)
  (e:eval (.Call (.Attribute o m apos) [] [] pos) X.env=(do
   let ov <- eval o X.env
   standAt apos.atName
   let (f,first) <- holding [ov] (getMethod ov m pl)
   callWith pos f first (backTo pos (starEach [] X.env)) (backToKw pos (keywordEach [] X.env))):=by rfl) :
  PE X (.Call (.Attribute o m apos) [] [] pos) (qdQ C m sp [] E0 ta qfZ):=by
 obtain ⟨f,fd,F,c,a⟩:=D.ex;exact pe_meth0 (pl:=pl) b D.cl c F d a .nil qz e
end
section
variable {P:Program} {w:World} {K:yg} {mg:Str->Option Value} {base:Heap}
theorem Fun.ok1 {st:Stmt} {i:FuncData} {h:List Str} {k:Nat} (F:Fun K x qual st f i) (S:FnScope N h (qg st)) (g:∀ vs H Q E,sp vs H Q E->vs.length=h.length)
  (c:∀ (b:Value) (A:Around) (a:List Env) (s:Shared) (H:Hp) (vs:List V) (Q:VK) (E:XK),Room k (A.deeper (envOfC qual (qg st) s.heap.objs.size f b))->sp vs H Q E ->
   ∃ t,PSs (qeK (CX1 P w) P w K mg base N qual (qg st) f b A a s H E) (zt st) t/\t { nx:=fun _ H'=>Q .non H',rt:=Q } (start N vs) H):FnOk P w K mg base (CX1 P w) (k+1) f i h sp:=by
 obtain ⟨p,od,kV,j,q,o,b,ct,n,rfl,m,d⟩:=F.ex;exact qfG m d S g fun A a s H vs Q E l e=>c b A a s H vs Q E l e
end
noncomputable abbrev Cx.tried (X:Cx) (pn:List (Addr×Obj)) (E:Value->Shared->Prop):Cx:={ X with pn:=pn,xe:=E }
noncomputable abbrev Cx.hand (X:Cx) (a:Addr):Cx:={ X with A:=X.A.mark (some (.ref a)),calm:=false,xe:=fun _ _=>False }
section
variable {X:Cx} {pins pins':List (Addr×Obj)} {σ:St} {H:Hp} {s:Shared} {E:Value->Shared->Prop} {a:Addr}
theorem Inv.tried (I:Inv X pins σ H s) (E:Value->Shared->Prop):Inv (X.tried (X.pn++pins) E) [] σ H s:=
 ⟨⟨I.ok.mod,I.ok.kind,I.ok.glob,I.ok.blt,I.ok.above,I.ok.inj,I.ok.has,I.ok.cab,I.ok.hd,I.ok.frames,I.ok.stk,I.ok.exf,I.ok.bs,I.ok.bsz,I.ok.noex,I.ok.exfs,I.ok.funs,I.ok.frf⟩,I.os,I.bare,I.base,I.loc,I.cell,I.free,I.freeC,
  fun p a=>I.pin p (by have a:p∈(X.pn++pins)++[]:=a;rw [Yd] at a;exact a),I.hok,I.len⟩
theorem Inv.untried (I:Inv (X.tried (X.pn++pins) E) pins' σ H s):Inv X pins σ H s:=
 ⟨⟨I.ok.mod,I.ok.kind,I.ok.glob,I.ok.blt,I.ok.above,I.ok.inj,I.ok.has,I.ok.cab,I.ok.hd,I.ok.frames,I.ok.stk,I.ok.exf,I.ok.bs,I.ok.bsz,I.ok.noex,I.ok.exfs,I.ok.funs,I.ok.frf⟩,I.os,I.bare,I.base,I.loc,I.cell,I.free,I.freeC,
  fun p a=>I.pin p (yO _ a),I.hok,I.len⟩
theorem Inv.hand (I:Inv X pins σ H s) (a:Addr):Inv (X.hand a) pins σ H s:=
 ⟨⟨I.ok.mod,I.ok.kind,I.ok.glob,I.ok.blt,I.ok.above,I.ok.inj,I.ok.has,I.ok.cab,(fun h=>nomatch h),I.ok.frames,I.ok.stk,I.ok.exf,I.ok.bs,I.ok.bsz,I.ok.noex,I.ok.exfs,I.ok.funs,I.ok.frf⟩,I.os,I.bare,I.base,I.loc,I.cell,I.free,I.freeC,I.pin,I.hok,I.len⟩
theorem Inv.unhand (hc:X.calm=true->X.A.handled=none) (I:Inv (X.hand a) pins σ H s):Inv X pins σ H s:=
 ⟨⟨I.ok.mod,I.ok.kind,I.ok.glob,I.ok.blt,I.ok.above,I.ok.inj,I.ok.has,I.ok.cab,hc,I.ok.frames,I.ok.stk,I.ok.exf,I.ok.bs,I.ok.bsz,I.ok.noex,I.ok.exfs,I.ok.funs,I.ok.frf⟩,I.os,I.bare,I.base,I.loc,I.cell,I.free,I.freeC,I.pin,I.hok,I.len⟩
structure Loose (X:Cx) (pins:List (Addr×Obj)) (H:Hp) (T:Addr):Prop where
 hn:H T=none
 lo:X.s₀.heap.objs.size<=T
 nl:T≠X.env.locals
 nf:T∉X.fs
 nc:∀ x c,X.env.cells.lookup x=some c->c≠T
 np:∀ p∈X.pn++pins,p.1≠T
theorem Inv.loose (I:Inv X pins σ H s) {T:Addr} (a:s.heap.objs.size<=T) (hn:H' T=none):Loose X pins H' T where
 hn:=hn
 lo:=yi I.sz a
 nl:=Yj (yj I.lt a)
 nf:=I.nofs a
 nc:=fun x c e=>by
  obtain ⟨v,o,b,_⟩:=I.cell x c e;exact yI (yj (yH b) a)
 np:=fun p d=>yI (yj (yH (I.pin p d).1) a)
theorem Inv.noted {T:Addr} (I:Inv X pins σ H s) (g:H a=some (XO a C dx)) (k:Keep (frs X.stack) zs s.heap h') (hz:∀ b∈zs,b=a\/Loose X pins H b) (t:Trc h' a (.ref C) dx T fl) :
  Inv X pins σ H { s with heap:=h' }:=by
 have j:=qbW I g k (fun b c=>(hz b c).imp (fun e=>e) fun l=>l.hn) t;have i:∀ b,H b=none->b∉zs.filter (fun b=>decide (b≠a))->b∉zs:=fun b n z y=>z (yp.mpr ⟨y,yB fun e=>by rw [e,g] at n;cases n⟩);refine I.call (g':=s.gens) (t':=s.toks) (d':=s.drawn) (ch:=zs.filter fun b=>decide (b≠a)) ⟨fun b o e n c f=>k.keep b o e (i b n f) c,fun b o e n c f=>k.slot b o e (i b n f) c,fun _ _ _ n _=>n,fun b o e f=>?_,fun _ _ e=>e,fun _ _ _ e=>e,
  fun b m e=>⟨#[],by rw [e];simp⟩⟩ j I.bare fun b c=>?_
 ·by_cases d:b=a
  ·subst d;obtain ⟨vs,q,_⟩:=t.ex;exact ⟨_,q⟩
  ·have z:b∉zs:=fun y=>f (yp.mpr ⟨y,yB d⟩);by_cases h:b∈frs X.stack
   ·obtain ⟨p,q⟩:=k.slot b o e z h;exact ⟨_,q⟩
   ·exact ⟨o,k.keep b o e z h⟩
 ·obtain ⟨y,q⟩:=yp.mp c;rcases hz b y with e | l
  ·exact absurd e (yk q)
  ·exact ⟨.inr l.lo,l.nl,l.nc,l.np⟩
theorem unbind_ok {i:Nat} {Q:Unit->Shared->Prop} (I:Inv X pins σ H s) (K:X.N.Nodup) (C:X.N[i]?=some x) (f:X.env.scope.names.lookup x=some .local) (hv:σ[i]?=some (some v))
  (h:∀ s',Inv X pins (σ.set i none) H s'->Q () s'):wpAny M A (unbindName X.env x) Q E s:=by
 obtain ⟨m,O,hl⟩:=id I.loc;obtain ⟨u,ru,R⟩:=hl i x v C hv (.inl f)
 have L:m x=some u:=by
  rcases R with ⟨_,e⟩ | ⟨k,_⟩
  ·exact e
  ·have k':X.env.scope.names.lookup x=some .cell\/X.env.scope.names.lookup x=some .free:=k;rw [f] at k';rcases k' with z | z<;>cases z
 have r:(X.env.scope.kind==.class||(X.env.scope.kind==.module&&X.env.locals != X.env.globals))=false:=by rw [I.ok.kind];rfl
 refine wpAny_unbindName_local f O L r fun h' u' G g=>?_;have a:∀ b o,X.s₀.heap.get? b=some o->b≠X.env.locals:=fun b o e=>yI (yj (yH e) I.ok.above);refine h _ ⟨I.ok,I.os,I.bare,⟨fun b o e n B f=>?_,fun b o e n B f=>?_,I.base.free,fun b o e f=>?_,I.base.tups,I.base.frzs,I.base.tbls⟩,⟨_,G,fun j y v' l t J=>?_⟩,fun y c e=>?_,I.free,I.freeC,fun p P=>?_,fun b W e=>?_,by simpa using I.len⟩
 ·exact (g.2 b (a b o e)).trans (I.base.keep b o e n B f)
 ·obtain ⟨Z,l⟩:=I.base.slot b o e n B f;exact ⟨Z,(g.2 b (a b o e)).trans l⟩
 ·obtain ⟨U,l⟩:=I.base.there b o e f;exact ⟨U,(g.2 b (a b o e)).trans l⟩
 ·by_cases D:j=i
  ·subst D;have F:j<σ.length:=by rw [I.len];exact (yc.mp C).1
   rw [xV F] at t;cases t
  ·rw [xl (Yh D)] at t;obtain ⟨w,Y,q⟩:=hl j y v' l t J;refine ⟨w,Y,?_⟩;rcases q with ⟨k,e⟩ | ⟨k,c,e,z⟩
   ·have T:y≠x:=fun e=>D (qbO K l (e ▸ C));exact .inl ⟨k,by simp [T,e]⟩
   ·exact .inr ⟨k,c,e,z.sameBut g (I.cne y c e)⟩
 ·obtain ⟨w,z⟩:=I.cell y c e;exact ⟨w,z.sameBut g (I.cne y c e)⟩
 ·obtain ⟨e,n,ne,S,d⟩:=I.pin p P;exact ⟨(g.2 p.1 ne).trans e,n,ne,S,d⟩
 ·refine (I.hok b W e).stay (fun c w hc q=>(g.2 c ?_).trans q) (fun _ q=>q) fun _ _ q=>q;rintro rfl;rcases hc with rfl | hc
  ·rw [I.free] at e;cases e
  ·rw [I.free] at hc;cases hc
end
structure Held (X:Cx) (pins:List (Addr×Obj)) (H:Hp) (h:Heap) (a C:Addr) (dx:Option Addr):Prop where
 at_:H a=some (XO a C dx)
 tr:∃ T,Trc h a (.ref C) dx T .none/\Loose X pins H T
def PH (X:Cx) (a C:Addr) (dx:Option Addr) (b:List ExceptHandler) (c:TS):Prop:=
 ∀ (pins:List (Addr×Obj)) (s:Shared) (σ:St) (H:Hp) (D:Ends),Inv X pins σ H s->Held X pins H s.heap a C dx->c D σ H->wpAny (model X.prog X.w) X.A (handleBy (.ref a) X.env b) (SP X pins D) X.xe s
def thNil:TS:=fun _ _ _=>False
def thAs (K:yg) (a C D:Addr) (i:Nat) (d rest:TS):TS:=fun Z σ H=>∃ b,PySem.W.mroIn K C (.ref D)=some b/\XAt K D/\XAt K C /\
 if b=true then d { nx:=fun c H'=>Z.nx (c.set i none) H',rt:=Z.rt,bk:=fun c H'=>Z.bk (c.set i none) H',ct:=fun c H'=>Z.ct (c.set i none) H' } (σ.set i (some (.ref a))) H else rest Z σ H
def thNo (K:yg) (C D:Addr) (a rest:TS):TS:=fun Z σ H=>∃ b,PySem.W.mroIn K C (.ref D)=some b/\XAt K D/\XAt K C/\if b=true then a Z σ H else rest Z σ H
theorem qeX {K:yg} {o:Obj} {Q:Bool->Shared->Prop} (X:K.In s.heap) (n:s.heap.get? a=some o) (hc:o.cls=.ref C) (d:XAt K D) (l:PySem.W.mroIn K C (.ref D)=some b) (q:Q b s) :
  wpAny M A (excMatches (.ref a) (.ref D)) Q E s:=by
 obtain ⟨B,G,N,bs,i,h,sn,sub,p,j,r,v,w,x,y,z,e,m⟩:=qdg X d.xc;have c:(Value.ref D::i).contains (.type "BaseException")=true:=by rw [Yt,qav m (by simp),kD]
 have f:=tc_notTuple;have L:=xq (M:=M) X l;obtain ⟨u,g,t,tk,F⟩:=s;unfold excMatches
 repeat (first | with_reducible refine YH e ?_ | (with_reducible refine YH n ?_;rw [hc]) | (with_reducible refine xr e ?_;rw [c]) | with_reducible refine L.at ?_ | wp_step)
 cases b<;>(wp_walk;exact q)
section
variable {X:Cx} {a C D:Addr} {dx:Option Addr} {c n:Str} {cp pos:Pos} {b0:Stmt} {body:List Stmt} {rest:List ExceptHandler} {tb tr:TS} {i:Nat} {K:yg}
theorem ph_nil:PH X a C dx [] thNil:=fun _ _ _ _ _ _ _ h=>h.elim
theorem suite_as {R:Result->Shared->Prop} {e:Value}
  (h:wpAny (model prog w) A (setFlight e none) (fun _ a=>wpAny (model prog w) A (bindName env n e) (fun _ b=>wpAny (model prog w) A (execs (b0::body) env) (fun f c=>R (.ok f) c) (fun _ _=>False) b) (fun _ _=>False) a) (fun _ _=>False) s) :
  codeAny (model prog w) A (.handlers e [.ExceptHandler none (some n) (b0::body) pos] env) R s:=by
 refine codeAny_of_tree ?_;show wpAny _ A (do return Fin.done (<- (handleWith e env [.ExceptHandler none (some n) (b0::body) pos]).onRaise (fun x=>do noteFrame x env;theTreesLotGoes x))) _ _ s;refine yr (wpAny_noted ?_);unfold handleWith;refine yr (Xh (yr (YF h (fun _ a h1=>yr (YF h1 (fun _ b d=>yr (ke (YF d (fun f c g=>yw (yw g)) fun _ _ z=>z.elim))) fun _ _ z=>z.elim)) fun _ _ z=>z.elim)))
theorem ph_as (Y:X.K=K) (y:X.N.Nodup) (x:X.N[i]?=some n) (m:X.env.scope.names.lookup n=some .local) (hg:Gl X c) (hm:X.mg c=some (.ref D)) (B:PSs (X.hand a) (b0::body) tb) (hr:PH X a C dx rest tr)
  (F:(c==("__debug__":Str))=false:=by decide):PH X a C dx (.ExceptHandler (some (.Name c cp)) (some n) (b0::body) pos::rest) (thAs K a C D i tb tr):=by
 subst Y;intro pins s σ H Z I hl h;obtain ⟨b,E,xd,xc,q⟩:=h;obtain ⟨vs,he⟩:=(show IsX H a C dx from .inr hl.at_).get I.hok;refine wpAny_handleBy_cons (codeAny_handlers_test ?_) (by intro q;cases q);have W:=I.hand a;refine zH (X:=X.hand a) W hg hm (qeX I.kIn he rfl xd E ?_) F
 cases b with
 | false=>exact hr pins s σ H Z I hl q
 | true =>
  obtain ⟨T,t,lo⟩:=hl.tr;refine suite_as (qbk t fun h1 t1 O aa=>?_);have kk:Keep (frs X.stack) [T] s.heap h1:=⟨fun b o e z _=>O b o (by simpa using z) e,fun b o e z _=>⟨o.slots,O b o (by simpa using z) e⟩⟩;have R:=I.noted hl.at_ kk (fun b B=>.inr (by rw [yA.mp B];exact lo)) t1;have S:=R.hand a;refine wpAny_bindName (qaQ (X:=X.hand a) S y x (.inl m) (v:=.ref a) rfl (fun s2 U=>?_) (.inr m));have q':tb { nx:=fun d H'=>Z.nx (d.set i none) H',rt:=Z.rt,bk:=fun d H'=>Z.bk (d.set i none) H',ct:=fun d H'=>Z.ct (d.set i none) H' } (σ.set i (some (.ref a))) H:=q;refine thn (B pins s2 _ H _ U q') fun f P p=>?_
  have j:∀ {d:St} {H':Hp} {Q:Unit->Shared->Prop},Inv (X.hand a) pins d H' P->(∀ l,Inv X pins (d.set i none) H' l->Q () l)->wpAny (model X.prog X.w) X.A (do bindName X.env n .none;unbindBehindTheSuite X.env n pos) Q X.xe P:=fun {d H' Q} J k=>by
   have L:=Inv.unhand I.ok.hd J;have G:i<d.length:=by rw [L.len];exact (yc.mp x).1
   refine yr (wpAny_bindName (qaQ L y x (.inl m) (v:=.non) rfl (fun l g=>?_) (.inr m)));refine wpAny_onRaise (unbind_ok g y x m (v:=.non) (by rw [xV G]) fun s5 M=>k s5 ?_);rw [List.set_set] at M;exact M
  cases f with
  | next=>obtain ⟨d,H',J,z⟩:=p;exact j J fun l g=>⟨_,H',g,z⟩
  | brk=>obtain ⟨d,H',J,z⟩:=p;exact j J fun l g=>⟨_,H',g,z⟩
  | cont=>obtain ⟨d,H',J,z⟩:=p;exact j J fun l g=>⟨_,H',g,z⟩
  | ret u=>obtain ⟨v,d,H',J,r,z⟩:=p;exact j J fun l g=>⟨v,_,H',g,r,z⟩
theorem ph_no (p:X.K=K) (x:Gl X c) (y:X.mg c=some (.ref D)) (i:PSs (X.hand a) (b0::body) tb) (A:PH X a C dx rest tr) (l:(c==("__debug__":Str))=false:=by decide) :
  PH X a C dx (.ExceptHandler (some (.Name c cp)) none (b0::body) pos::rest) (thNo K C D tb tr):=by
 subst p;intro pins s σ H Z I hl h;obtain ⟨b,j,xd,M,q⟩:=h;obtain ⟨vs,w⟩:=(show IsX H a C dx from .inr hl.at_).get I.hok;refine wpAny_handleBy_cons (codeAny_handlers_test ?_) (by intro q;cases q);refine zH (X:=X.hand a) (I.hand a) x y (qeX I.kIn w rfl xd j ?_) l
 cases b with
 | false=>exact A pins s σ H Z I hl q
 | true =>
  obtain ⟨T,t,lo⟩:=hl.tr;refine codeAny_handlers_suite (qbk t fun h1 G m F=>?_);have B:Keep (frs X.stack) [T] s.heap h1:=⟨fun b o e z _=>m b o (by simpa using z) e,fun b o e z _=>⟨o.slots,m b o (by simpa using z) e⟩⟩;have n:=I.noted hl.at_ B (fun b i=>.inr (by rw [yA.mp i];exact lo)) G;have E:tb Z σ H:=q;refine YF (i pins _ σ H Z (n.hand a) E) (fun f L g=>?_) fun _ _ z=>z.elim
  cases f with
  | next=>obtain ⟨d,H',J,z⟩:=g;exact ⟨d,H',Inv.unhand I.ok.hd J,z⟩
  | brk=>obtain ⟨d,H',J,z⟩:=g;exact ⟨d,H',Inv.unhand I.ok.hd J,z⟩
  | cont=>obtain ⟨d,H',J,z⟩:=g;exact ⟨d,H',Inv.unhand I.ok.hd J,z⟩
  | ret u=>obtain ⟨v,d,H',J,r,z⟩:=g;exact ⟨v,d,H',Inv.unhand I.ok.hd J,r,z⟩
end
def tTry (X:Cx) (b:List Stmt) (g:List ExceptHandler) (te:TS):TS:=fun D σ H=>∃ (d:St->XK) (e:TS),(∀ pn xe,XOk (X.tried pn xe) d->PSs (X.tried pn xe) b e) /\
 e { nx:=te D,rt:=D.rt,bk:=D.bk,ct:=D.ct } σ H/\∀ (a C:Addr) (dx:Option Addr) (c:St) (H':Hp),d c (.ref C) dx H'->H' a=some (XO a C dx)->∃ f,PH X a C dx g f/\f D c H'
section
variable {X:Cx} {body orelse:List Stmt} {h0:ExceptHandler} {hs:List ExceptHandler} {pos:Pos} {te:TS}
theorem ps_try (hc:X.calm=true) (l:X.stack=X.env::X.outer) (E:X.env.frame=some X.env.locals) (ho:PSs X orelse te):PS X (.Try body (h0::hs) orelse [] pos) (tTry X body (h0::hs) te):=by
 intro pins s σ H D I h;obtain ⟨S,tb,j,q,hh⟩:=h;have F:X.A.frames=some (X.env::X.outer):=by rw [<- l];exact I.ok.frames
 let n:Value->Shared->Prop:=fun e d=>∃ (a C:Addr) (dx:Option Addr) (c:St) (H':Hp),e=.ref a/\Inv X pins c H' d/\H' a=some (XO a C dx)/\S c (.ref C) dx H' /\
  ((∃ T,Trc d.heap a (.ref C) dx T .none/\Loose X pins H' T)\/∃ a0,d.heap.get? a=some ⟨.ref C,dx,.fields (xfs a0),#[]⟩)
 have XX:XOk (X.tried (X.pn++pins) n) S:=by
  refine ⟨fun pins' c M d e s2 J m=>?_,fun pins' c M d a C dx J e z=>?_,hc⟩
  ·obtain ⟨a,C,dx,T,H',rfl,R,O,un,P,p,t,hT,N,z⟩:=m;have y:=J.call' (s':=s2) (H':=H') (ch:=[]) R un P O (fun b z=>absurd z (by simp));have K:=Inv.untried J;exact ⟨a,C,dx,c,H',rfl,Inv.untried y,p,z,.inl ⟨T,t,K.loose hT N⟩⟩
  ·have K:=Inv.untried J;obtain ⟨⟨a0,m⟩,_⟩:=(show ObjOk _ _ M d.heap a (XN a C dx) from K.hok a _ e);have y:Inv X pins c (upd M a (XO a C dx)) d:=K.write (x:=a) (e:=a) (o:=XO a C dx) (h':=d.heap) (t':=d.toks) (by rw [e];exact YM) (.inl rfl) (fun _ _ _ q=>q) ⟨_,m⟩ (XO.ok m);exact ⟨a,C,dx,c,_,rfl,y,qb,z,.inr ⟨a0,m⟩⟩
 have B:=j (X.pn++pins) n XX [] s σ H _ (I.tried n) q;refine wpAny_Try_except (YF B (fun f d L=>?_) fun e d he=>?_)
 ·cases f with
  | next=>obtain ⟨c,H',J,z⟩:=L;exact ho pins d c H' D (Inv.untried J) z
  | brk=>obtain ⟨c,H',J,z⟩:=L;exact ⟨c,H',Inv.untried J,z⟩
  | cont=>obtain ⟨c,H',J,z⟩:=L;exact ⟨c,H',Inv.untried J,z⟩
  | ret u=>obtain ⟨v,c,H',J,r,z⟩:=L;exact ⟨v,c,H',Inv.untried J,r,z⟩
 ·obtain ⟨a,C,dx,c,H',rfl,J,p,z,tt⟩:=he;obtain ⟨th,hp,hq⟩:=hh a C dx c H' z p;have G:d.heap.FunFrames X.base (X.env::X.outer):=by rw [<- l];exact J.stack
  have U:∀ (h':Heap) (i:Addr) (zs:List Addr),d.heap.objs.size<=i->Trc h' a (.ref C) dx i (rawInt X.env.locals)->Keep (frs (X.env::X.outer)) zs d.heap h'->(∀ b∈zs,b=a\/Loose X pins H' b) ->
    wpAny (model X.prog X.w) X.A (setFlight (.ref a) none) (fun _ s3=>wpAny (model X.prog X.w) X.A (handleBy (.ref a) X.env (h0::hs)) (SP X pins D) X.xe s3) X.xe { d with heap:=h' }:=fun h' i zs g t' k hz=>by
   have lo:=J.loose g (J.hok.fresh g);have y:=J.noted p (by rw [l];exact k) hz t';refine qbk (s:={ d with heap:=h' }) t' fun h2 Y W aa=>?_;have kk:Keep (frs X.stack) [i] h' h2:=⟨fun b o e z _=>W b o (by simpa using z) e,fun b o e z _=>⟨o.slots,W b o (by simpa using z) e⟩⟩;have Z:=y.noted p kk (fun b j=>.inr (by rw [yA.mp j];exact lo)) Y;exact hp pins _ c H' D Z ⟨p,i,Y,lo⟩ hq
  rcases tt with ⟨T,t,lo⟩ | ⟨a0,m⟩
  ·refine qdj (base:=X.base) F G E t fun h' i g t' k=>U h' i _ g t' k fun b j=>?_;simp only [yv,yG,Yl] at j;rcases j with rfl | rfl
   ·exact .inl rfl
   ·exact .inr lo
  ·refine qcu (base:=X.base) F G E m rfl rfl fun h' i g t' k=>U h' i _ g t' k fun b j=>?_;exact .inl (yA.mp j)
end
def TyX (K:yg) (H:Hp) (x:V) (t:Value):Prop:=TyOf K H x t\/∃ a C dx,x=.ref a/\t=.ref C/\IsX H a C dx/\XAt K C/\∀ d,dx=some d->∃ fs,H d=some (.xd fs)
theorem TyX.kit {x:V} (I:Inv X pins σ H s) (e:RelV x u) (ty:TyX X.K H x t):∃ P:Heap->Prop,PySem.W.KitX X.K u t P/\P s.heap/\u≠.builtin "__main__.__loader__#opaque":=by
 rcases ty with ty | ⟨a,C,dx,rfl,rfl,hx,c,hd⟩
 ·exact ty.kit I e
 ·cases e;obtain ⟨vs,b⟩:=hx.get I.hok
  cases dx with
  | none=>exact ⟨_,qdh (od:=none) c,⟨b,rfl,rfl,YM⟩,fun z=>nomatch z⟩
  | some d =>
   obtain ⟨fs,f⟩:=hd d rfl;obtain ⟨od,g,h1,_⟩:=qeQ I f;exact ⟨_,qdh (od:=some od) c,⟨b,rfl,rfl,h1⟩,fun z=>nomatch z⟩
def qfP (K:yg):List V->Hp->VK->Prop:=fun xs H Q=>∃ x y t c b,xs=[x,y]/\TyX K H x t/\qcs y=some c/\PySem.W.kitOne K t c=some b/\Q (.bl b) H
def qeY (K:yg):List V->Hp->VK->Prop:=fun xs H Q=>∃ x p ys t a b,xs=[x,.ref p]/\TyX K H x t/\H p=some (.tup ys)/\ys.map qcs=a.map some/\PySem.W.kitAny K t a=some b/\Q (.bl b) H
section
variable {X:Cx} {K:yg}
theorem qaw (a:X.K=K):zm X (.builtin "isinstance") (qfP K):=by
 subst a;intro pins s σ H xs us Q I r h;obtain ⟨x,y,t,c,b,rfl,ty,f,d,q⟩:=h;obtain ⟨u,v,rfl,g,i⟩:=qeC r;have e:=qbH f i;subst e;obtain ⟨P,Z,p,ne⟩:=ty.kit I g;exact PySem.W.kia_one Z I.kIn p d ne fun tk=>⟨.bl b,H,I.tok tk,rfl,q⟩
theorem qd7 (i:X.K=K):zm X (.builtin "isinstance") (qeY K):=by
 subst i;intro pins s σ H xs us Q I r h;obtain ⟨x,p,ys,t,C,b,rfl,ty,y,z,j,q⟩:=h;obtain ⟨u,v,rfl,B,f⟩:=qeC r;cases f;obtain ⟨P,Z,A,ne⟩:=ty.kit I B;obtain ⟨_,its,f,o,m,hc,n,l⟩:=(show ObjOk X.prog X.w H s.heap p (.tup ys) from I.hok p _ y);have e:=qbi z f;subst e;obtain ⟨c,D,g,E⟩:=o;have a:c=.type "tuple":=hc;have d:g=.seq its.toArray n:=l;subst a d;exact PySem.W.kia_tup Z I.kIn A m j ne fun tk=>⟨.bl b,H,I.tok tk,rfl,q⟩
end
mutual
inductive EqD (K:yg) (H:Hp):Nat->V->V->Bool->Prop
 | flat {n:Nat} {x y:V} (fx:j5 x=true) (fy:j5 y=true):EqD K H n x y (eqV x y)
 | self {n:Nat} {a:Addr}:EqD K H n (.ref a) (.ref a) true
 | deep {n:Nat} {a b:Addr} {k:Bool} (h:EqT K H n a b k) (ne:a≠b):EqD K H n (.ref a) (.ref b) k
inductive EqT (K:yg) (H:Hp):Nat->Addr->Addr->Bool->Prop
 | lst {n:Nat} {a b:Addr} {xs ys:List V} {e:Nat->Bool} (ha:SqL K H a xs) (hb:SqL K H b ys) (hl:xs.length=ys.length) (he:∀ j x y,xs[j]?=some x->ys[j]?=some y->EqD K H n x y (e j)):EqT K H (n+1) a b ((List.range xs.length).all e)
 | lstL {n:Nat} {a b:Addr} {xs ys:List V} (ha:SqL K H a xs) (hb:SqL K H b ys) (hl:xs.length≠ys.length):EqT K H (n+1) a b false
 | tup {n:Nat} {a b:Addr} {xs ys:List V} {e:Nat->Bool} (ha:SqT K H a xs) (hb:SqT K H b ys) (he:∀ j x y,xs[j]?=some x->ys[j]?=some y->EqD K H n x y (e j)):EqT K H (n+1) a b ((List.range (min xs.length ys.length)).all e&&xs.length==ys.length)
 | lt {n:Nat} {a b:Addr} {xs ys:List V} (ha:SqL K H a xs) (hb:SqT K H b ys):EqT K H (n+1) a b false
 | tl {n:Nat} {a b:Addr} {xs ys:List V} (ha:SqT K H a xs) (hb:SqL K H b ys):EqT K H (n+1) a b false
end
theorem jp:∀ {xs:List V} {us:List Value} {j:Nat} {u:Value},Vals xs us->us[j]?=some u->∃ x,xs[j]?=some x/\RelV x u
 | _,_,_,_,.nil,e=>by simp at e
 | _,_,0,_,.cons r _,e=>by simp at e;subst e;exact ⟨_,rfl,r⟩
 | _,_,j+1,u,.cons _ t,e=>by
  obtain ⟨x,h1,a⟩:=jp (j:=j) (u:=u) t (by simpa using e);exact ⟨x,by simpa using h1,a⟩
section
variable {X:Cx} {pins:List (Addr×Obj)} {σ:St} {H:Hp} {s:Shared}
theorem qbX (I:Inv X pins σ H s):∀ n,(∀ (A:Around) (x y:V) (k:Bool) (u v:Value),EqD X.K H n x y k->RelV x u->RelV y v->A.units+n<cLine->SeqAt.EqAt A s u v k)/\(∀ (A:Around) (a b:Addr) (k:Bool),EqT X.K H n a b k->A.units+n<cLine->SeqAt.RcAt A s (.ref a) (.ref b) k):=by
 intro n
 induction n with
 | zero =>
  have F:∀ (A:Around) (a b:Addr) (k:Bool),EqT X.K H 0 a b k->A.units+0<cLine->SeqAt.RcAt A s (.ref a) (.ref b) k:=fun A a b k h=>by cases h
  refine ⟨fun A x y k u v h g i z=>?_,F⟩
  cases h with
  | flat fx fy=>exact qdU g i fx fy
  | self=>cases g;cases i;exact km _
  | deep h ne=>cases h
 | succ n ih =>
  have D:∀ (A:Around) (a b:Addr) (k:Bool),EqT X.K H (n+1) a b k->A.units+(n+1)<cLine->SeqAt.RcAt A s (.ref a) (.ref b) k:=fun A a b k h z=>by
   have f:A.units<cLine:=by omega
   have o:A.in1.units+n<cLine:=by show A.units+1+n<cLine;omega
   cases h with
   | @lst _ _ _ xs ys e ha hb hl he =>
    obtain ⟨its,r,pl,hz⟩:=I.list ha;obtain ⟨c,m,d,l⟩:=I.list hb;have p:xs.length=its.toArray.size:=by rw [yx];exact r.length
    have q:ys.length=c.toArray.size:=by rw [yx];exact m.length
    rw [p];refine SeqAt.RcAt.lists pl.isList d.isList (by rw [<- p,<- q,hl]) f fun j h1 E=>?_;have t:its[j]?=some its.toArray[j]:=by simp
    have w:c[j]?=some c.toArray[j]:=by simp
    obtain ⟨x,B,g⟩:=jp r t;obtain ⟨y,C,i⟩:=jp m w;exact ih.1 A.in1 x y (e j) _ _ (he j x y B C) g i o
   | @lstL _ _ _ xs ys ha hb hl =>
    obtain ⟨its,r,pl,hz⟩:=I.list ha;obtain ⟨c,m,d,l⟩:=I.list hb;refine SeqAt.RcAt.lists_lengths pl.isList d.isList ?_ f;rw [yx,yx,<- r.length,<- m.length];simp [hl]
   | @tup _ _ _ xs ys e ha hb he =>
    obtain ⟨its,r,pl,hz⟩:=I.tuple ha;obtain ⟨c,m,d,l⟩:=I.tuple hb;have p:xs.length=its.toArray.size:=by rw [yx];exact r.length
    have q:ys.length=c.toArray.size:=by rw [yx];exact m.length
    rw [p,q];refine SeqAt.RcAt.tuples pl d f fun j h1 E=>?_;have t:its[j]?=some its.toArray[j]:=by simp
    have w:c[j]?=some c.toArray[j]:=by simp
    obtain ⟨x,B,g⟩:=jp r t;obtain ⟨y,C,i⟩:=jp m w;exact ih.1 A.in1 x y (e j) _ _ (he j x y B C) g i o
   | lt ha hb =>
    obtain ⟨its,r,pl,hz⟩:=I.list ha;obtain ⟨c,m,d,l⟩:=I.tuple hb;exact SeqAt.RcAt.list_tuple pl.isList d f
   | tl ha hb =>
    obtain ⟨its,r,pl,hz⟩:=I.tuple ha;obtain ⟨c,m,d,l⟩:=I.list hb;exact SeqAt.RcAt.tuple_list pl d.isList f
  refine ⟨fun A x y k u v h g i z=>?_,D⟩
  cases h with
  | flat fx fy=>exact qdU g i fx fy
  | self=>cases g;cases i;exact km _
  | deep h ne=>cases g;cases i;exact SeqAt.EqAt.of_refs ne (D A _ _ k h z)
theorem ne_refs (I:Inv X pins σ H s) {n:Nat} {A:Around} {a b:Addr} {k:Bool} (h:EqT X.K H n a b k) (z:A.units+n<cLine):SeqAt.RcNeAt A s (.ref a) (.ref b) (!k):=by
 cases n with
 | zero=>cases h
 | succ n =>
  have v:=qbX I n;have f:A.units<cLine:=by omega
  have l:A.in1.units+n<cLine:=by show A.units+1+n<cLine;omega
  cases h with
  | @lst _ _ _ xs ys e ha hb hl he =>
   obtain ⟨its,r,pl,hz⟩:=I.list ha;obtain ⟨c,i,d,g⟩:=I.list hb;have m:xs.length=its.toArray.size:=by rw [yx];exact r.length
   have o:ys.length=c.toArray.size:=by rw [yx];exact i.length
   rw [m];refine SeqAt.RcNeAt.lists pl.isList d.isList (by rw [<- m,<- o,hl]) f fun j h1 w=>?_;obtain ⟨x,p,t⟩:=jp r (show its[j]?=some its.toArray[j] by simp);obtain ⟨y,q,u⟩:=jp i (show c[j]?=some c.toArray[j] by simp);exact v.1 A.in1 x y (e j) _ _ (he j x y p q) t u l
  | @lstL _ _ _ xs ys ha hb hl =>
   obtain ⟨its,r,pl,hz⟩:=I.list ha;obtain ⟨c,i,d,g⟩:=I.list hb;refine SeqAt.RcNeAt.lists_lengths pl.isList d.isList ?_ f;rw [yx,yx,<- r.length,<- i.length];simp [hl]
  | @tup _ _ _ xs ys e ha hb he =>
   obtain ⟨its,r,pl,hz⟩:=I.tuple ha;obtain ⟨c,i,d,g⟩:=I.tuple hb;have m:xs.length=its.toArray.size:=by rw [yx];exact r.length
   have o:ys.length=c.toArray.size:=by rw [yx];exact i.length
   rw [m,o];refine SeqAt.RcNeAt.tuples pl d f fun j h1 w=>?_;obtain ⟨x,p,t⟩:=jp r (show its[j]?=some its.toArray[j] by simp);obtain ⟨y,q,u⟩:=jp i (show c[j]?=some c.toArray[j] by simp);exact v.1 A.in1 x y (e j) _ _ (he j x y p q) t u l
  | lt ha hb =>
   obtain ⟨its,r,pl,hz⟩:=I.list ha;obtain ⟨c,i,d,g⟩:=I.tuple hb;exact SeqAt.RcNeAt.list_tuple pl.isList d f
  | tl ha hb =>
   obtain ⟨its,r,pl,hz⟩:=I.tuple ha;obtain ⟨c,i,d,g⟩:=I.list hb;exact SeqAt.RcNeAt.tuple_list pl d.isList f
theorem qeZ {A:Around} {x y:V} {u v:Value} (e:RelV x u) (c:RelV y v) (f:j5 x=true) (d:j5 y=true):SeqAt.RcAt A s u v (eqV x y)/\SeqAt.RcNeAt A s u v (!eqV x y):=by
 cases x with
 | non =>
  cases e
  cases y with
  | non=>cases c;exact ⟨SeqAt.RcAt.none_none,SeqAt.RcNeAt.none_none⟩
  | bl b=>cases c;exact ⟨SeqAt.RcAt.none_bool b,SeqAt.RcNeAt.none_bool b⟩
  | int b=>obtain ⟨t,rfl⟩:=c;exact ⟨SeqAt.RcAt.none_int b t,SeqAt.RcNeAt.none_int b t⟩
  | str b=>obtain ⟨t,rfl⟩:=c;exact ⟨SeqAt.RcAt.none_str b t,SeqAt.RcNeAt.none_str b t⟩
  | _=>cases d
 | bl a =>
  cases e
  cases y with
  | non=>cases c;exact ⟨SeqAt.RcAt.bool_none a,SeqAt.RcNeAt.bool_none a⟩
  | bl b=>cases c;exact ⟨SeqAt.RcAt.bool_bool a b,SeqAt.RcNeAt.bool_bool a b⟩
  | int b=>obtain ⟨t,rfl⟩:=c;exact ⟨SeqAt.RcAt.bool_int a b t,SeqAt.RcNeAt.bool_int a b t⟩
  | str b=>obtain ⟨t,rfl⟩:=c;exact ⟨SeqAt.RcAt.bool_str a b t,SeqAt.RcNeAt.bool_str a b t⟩
  | _=>cases d
 | int a =>
  obtain ⟨t',rfl⟩:=e
  cases y with
  | non=>cases c;exact ⟨SeqAt.RcAt.int_none a t',SeqAt.RcNeAt.int_none a t'⟩
  | bl b=>cases c;exact ⟨SeqAt.RcAt.int_bool a t' b,SeqAt.RcNeAt.int_bool a t' b⟩
  | int b=>obtain ⟨t,rfl⟩:=c;exact ⟨SeqAt.RcAt.int_int a t' b t,SeqAt.RcNeAt.int_int a t' b t⟩
  | str b=>obtain ⟨t,rfl⟩:=c;exact ⟨SeqAt.RcAt.int_str a t' b t,SeqAt.RcNeAt.int_str a t' b t⟩
  | _=>cases d
 | str a =>
  obtain ⟨t',rfl⟩:=e
  cases y with
  | non=>cases c;exact ⟨SeqAt.RcAt.str_none a t',SeqAt.RcNeAt.str_none a t'⟩
  | bl b=>cases c;exact ⟨SeqAt.RcAt.str_bool a t' b,SeqAt.RcNeAt.str_bool a t' b⟩
  | int b=>obtain ⟨t,rfl⟩:=c;exact ⟨SeqAt.RcAt.str_int a t' b t,SeqAt.RcNeAt.str_int a t' b t⟩
  | str b=>obtain ⟨t,rfl⟩:=c;exact ⟨SeqAt.RcAt.str_str a t' b t,SeqAt.RcNeAt.str_str a t' b t⟩
  | _=>cases d
 | _=>cases f
end
def qfg (K:yg) (c:Bool):R2:=fun x y H Q=>(j5 x=true/\j5 y=true/\Q (.bl (if c then !eqV x y else eqV x y)) H) \/
 (∃ a b k n,x=.ref a/\y=.ref b/\n<=60/\EqT K H n a b k/\Q (.bl (if c then !k else k)) H) \/
 (∃ a kvs,x=.ref a/\y=.ref a/\H a=some (.dK kvs)/\Q (.bl (!c)) H)
theorem qbl {b:Type} [DecidableEq b]:∀ {a:List (b×Value)} {k:b} {v:Value},(a.map (·.1)).Nodup->(k,v)∈a->valueAt a k=some v
 | [],_,_,_,h=>by cases h
 | (k',v')::r,k,v,hn,h=>by
  obtain ⟨h1,c⟩:=yo.mp (show (k'::r.map (·.1)).Nodup from hn);unfold valueAt;rw [xE];by_cases e:k'=k
  ·subst e;simp only [decide_true];rcases yv.mp h with z | z
   ·cases z;rfl
   ·exact absurd (Yb.mpr ⟨(k',v),z,rfl⟩) h1
  ·simp only [e,Kh];rcases yv.mp h with z | z
   ·cases z;exact absurd rfl e
   ·exact qbl c z
theorem qcQ {A:Around} {s:Shared} {c:Type} [DecidableEq c] (a:List (c×Value)) (d:(a.map (·.1)).Nodup):∀ f:List (c×Value),(∀ p∈f,p∈a)->PySem.W.KeqHits A s a f true
 | [],_=>.nil
 | (k,v)::r,h=>by
  have hv:valueAt a k=some v:=qbl d (h (k,v) yN);exact .hit (e:=true) (b:=true) hv (km v) (qcQ a d r fun p g=>h p (yz _ g))
section
variable {X:Cx} {K:yg}
theorem k_eqU (m:X.K=K) (p:X.A.units+100<cLine):OpR X (compareOp .Eq) (qfg K false):=by
 subst m;intro pins s σ H x y u v Q I c f h;rcases h with ⟨j,l,q⟩ | ⟨a,b,k,n,rfl,rfl,o,e,q⟩ | ⟨a,kvs,rfl,rfl,i,q⟩
 ·exact (qeZ c f j l).1 _ _ _ _ ⟨.bl _,H,I,rfl,q⟩
 ·cases c;cases f;exact (qbX I n).2 X.A a b k e (by omega) _ _ _ _ ⟨.bl _,H,I,rfl,q⟩
 ·cases c;cases f;obtain ⟨_,g,vs,r,d⟩:=(show ObjOk X.prog X.w H s.heap a (.dK kvs) from I.hok a _ i);obtain ⟨_,_,_,_,_,_,_,_,nd⟩:=id d;refine PySem.W.keq_eq g g d d (by omega) (fun _=>qcQ vs nd vs fun _ h=>h) ?_;rw [xv];exact ⟨.bl true,H,I,rfl,q⟩
theorem qbw (m:X.K=K) (p:X.A.units+100<cLine):OpR X (compareOp .NotEq) (qfg K true):=by
 subst m;intro pins s σ H x y u v Q I c f h;rcases h with ⟨j,l,q⟩ | ⟨a,b,k,n,rfl,rfl,o,e,q⟩ | ⟨a,kvs,rfl,rfl,i,q⟩
 ·exact (qeZ c f j l).2 _ _ _ _ ⟨.bl _,H,I,rfl,q⟩
 ·cases c;cases f;exact ne_refs I e (by omega) _ _ _ _ ⟨.bl _,H,I,rfl,q⟩
 ·cases c;cases f;obtain ⟨_,g,vs,r,d⟩:=(show ObjOk X.prog X.w H s.heap a (.dK kvs) from I.hok a _ i);obtain ⟨_,_,_,_,_,_,_,_,nd⟩:=id d;refine PySem.W.keq_ne g g d d (by omega) (fun _=>qcQ vs nd vs fun _ h=>h) ?_;rw [xv];exact ⟨.bl false,H,I,rfl,q⟩
end
section
variable {X:Cx} {K:yg}
def qf2 (K:yg):R2:=fun x y H Q=>rIx K x y H Q\/∃ a v,x=.ref a/\DGet H a y (some v)/\Q v H
theorem qt (f:X.K=K) (m:X.A.units+100<cLine):IxR X (qf2 K):=by
 subst f;refine IxR.or ix_seq ?_;intro d c pins s σ H x y v u Q I j l h i;obtain ⟨a,z,rfl,g,q⟩:=h;cases j;exact tail_any (dict_typeIs I g) PySem.F.slot_dict_getitem.lookup (d_getItem (by omega) I g l fun o n e b=>⟨z,H,e,b,q⟩) i
def rSetU:qfC:=fun o i v H Q=>qfe o i v H Q\/∃ a H',o=.ref a/\DPut H a i v H'/\Q H'
theorem jB (l:X.A.units+100<cLine):qf6 X rSetU:=by
 intro pins s σ H o i v j f u Q I c b d h;rcases h with h | ⟨a,H',rfl,g,q⟩
 ·exact set_list pins s σ H o i v j f u Q I c b d h
 ·cases c;exact d_setItem (by omega) I g b d fun s' e=>⟨H',e,q⟩
def qex (K:yg) (b:Bool):R2:=fun x y H Q=>rIn K b x y H Q\/(∃ a o,y=.ref a/\DGet H a x o/\Q (.bl (if b then !o.isSome else o.isSome)) H) \/
 (∃ p xs e n,y=.ref p/\SqL K H p xs/\n<=60/\(∀ z∈xs,EqD K H n z x (e z))/\Q (.bl (if b then !xs.any e else xs.any e)) H)
theorem qe0 {pins:List (Addr×Obj)} {σ:St} {H:Hp} {s:Shared} {xs:List V} {its:List Value} {x:V} {u:Value} {e:V->Bool} {n:Nat} {A:Around} (I:Inv X pins σ H s) (r:Vals xs its) (p:RelV x u) (o:A.units+n<cLine) (m:∀ z∈xs,EqD X.K H n z x (e z)) :
  ∃ g:Value->Bool,(∀ w,w∈its.toArray->SeqAt.EqAt A s w u (g w))/\its.toArray.any g=xs.any e:=by
 classical
 refine ⟨fun w=>decide (∃ z∈xs,RelV z w/\e z=true),fun w hw=>?_,?_⟩
 ·have d:w∈its:=by simpa using hw
  obtain ⟨j,c⟩:=Xk.mp d;obtain ⟨z,hz,a⟩:=jp r c;have i:=ye hz
  have eq:decide (∃ z∈xs,RelV z w/\e z=true)=e z:=by
   cases q:e z with
   | true=>exact yB ⟨z,i,a,q⟩
   | false =>
    refine yl fun ⟨t,_,f,l⟩=>?_;rw [RelV.inj f a,q] at l;cases l
  show SeqAt.EqAt A s w u (decide (∃ z∈xs,RelV z w/\e z=true));rw [eq];exact (qbX I n).1 A z x (e z) w u (m z i) a p o
 ·rw [Yw,YZ];constructor
  ·intro h;have h':its.any (fun w=>decide (∃ z∈xs,RelV z w/\e z=true))=true:=by simpa using h
   obtain ⟨w,_,q⟩:=YZ.mp h';obtain ⟨z,hz,_,b⟩:=yk q;exact ⟨z,hz,b⟩
  ·rintro ⟨z,hz,b⟩;obtain ⟨j,c⟩:=Xk.mp hz;obtain ⟨w,hw,a⟩:=r.get c;have:its.any (fun w=>decide (∃ z∈xs,RelV z w/\e z=true))=true:=YZ.mpr ⟨w,ye hw,yB ⟨z,hz,a,b⟩⟩;simpa using this
theorem zw (j:X.K=K) (l:X.A.units+100<cLine):OpR X (compareOp .In) (qex K false):=by
 subst j;intro pins s σ H x y u v Q I b c h;rcases h with h | ⟨a,o,rfl,g,q⟩ | ⟨p,xs,e,n,rfl,hl,hn,he,q⟩
 ·exact op_in_seq pins s σ H x y u v Q I b c h
 ·cases c;exact d_in (by omega) I g b fun s' d=>⟨.bl _,H,d,rfl,q⟩
 ·cases c;obtain ⟨its,r,pl,hz⟩:=I.list hl;obtain ⟨f,h1,i⟩:=qe0 (A:=X.A.in1) I r b (by show X.A.units+1+n<cLine;omega) he;exact SeqAt.in_listAt f pl.isList h1 (by rw [i];exact ⟨.bl _,H,I,rfl,q⟩)
theorem qaU (j:X.K=K) (l:X.A.units+100<cLine):OpR X (compareOp .NotIn) (qex K true):=by
 subst j;intro pins s σ H x y u v Q I b c h;rcases h with h | ⟨a,o,rfl,g,q⟩ | ⟨p,xs,e,n,rfl,hl,hn,he,q⟩
 ·exact op_notIn_seq pins s σ H x y u v Q I b c h
 ·cases c;exact d_notIn (by omega) I g b fun s' d=>⟨.bl _,H,d,rfl,q⟩
 ·cases c;obtain ⟨its,r,pl,hz⟩:=I.list hl;obtain ⟨f,h1,i⟩:=qe0 (A:=X.A.in1) I r b (by show X.A.units+1+n<cLine;omega) he;exact SeqAt.notIn_listAt f pl.isList h1 (by rw [i];exact ⟨.bl _,H,I,rfl,q⟩)
def rListU (K:yg):List V->Hp->VK->Prop:=fun xs H Q=>(∃ p ys,xs=[.ref p]/\(SqL K H p ys\/SqT K H p ys)/\∀ l,H l=none->Q (.ref l) (upd H l (.lst ys))) \/
 (∃ p kvs,xs=[.ref p]/\H p=some (.dK kvs)/\∀ l,H l=none->Q (.ref l) (upd H l (.lst (kvs.map fun a=>kV a.1)))) \/
 (∃ x,xs=[.str x]/\x.length<=1000/\∀ l,H l=none->Q (.ref l) (upd H l (.lst (x.cps.toList.map fun c=>.str ⟨#[c]⟩))))
theorem qbJ {c d:Type} {F:c->d->Prop}:∀ {l:List c} {m:List d} {j:Nat} {a:c},Paired F l m->l[j]?=some a->∃ b,m[j]?=some b/\F a b
 | _,_,_,_,.nil,e=>by simp at e
 | _,_,0,_,.cons r _,e=>by simp at e;subst e;exact ⟨_,rfl,r⟩
 | _,_,j+1,a,.cons _ t,e=>by
  obtain ⟨b,h1,f⟩:=qbJ (j:=j) (a:=a) t (by simpa using e);exact ⟨b,by simpa using h1,f⟩
theorem zn:∀ {ys:List V} {us:List Value},ys.length=us.length->(∀ (j:Nat) y u,ys[j]?=some y->us[j]?=some u->RelV y u)->Vals ys us
 | [],[],_,_=>.nil
 | [],_::_,h,_=>by cases h
 | _::_,[],h,_=>by cases h
 | y::ys,u::us,h,q=>.cons (q 0 y u rfl rfl) (zn (Nat.succ.inj h) fun j c b h1 a=>q (j+1) c b (by simpa using h1) (by simpa using a))
theorem qbY (J:X.K=K) (hc:X.calm=true):zm X (.type "list") (rListU K):=by
 subst J;intro pins s σ H xs us Q I r h;rcases h with h | ⟨p,kvs,rfl,ea,q⟩ | ⟨x,rfl,hx,q⟩
 ·exact call_list_of pins s σ H xs us Q I r h
 ·obtain ⟨u,rfl,M⟩:=qaO r;cases M;obtain ⟨hz,L,vs,D,d⟩:=(show ObjOk X.prog X.w H s.heap p (.dK kvs) from I.hok p _ ea);obtain ⟨ep,n⟩:=d.dictAt;have hl:kvs.length=vs.length:=D.length;refine PySem.W.kdl_call (PySem.W.kdl_dict (knd:=jg X.prog X.w) (kvs:=vs) (ep:=ep) L) (I.ok.hd hc) n (by rw [<- hl];exact hz) fun h' tk a f A e it=>?_;obtain ⟨o,v⟩:=it
  have hv:Vals (kvs.map fun b=>kV b.1) a.toList:=by
   refine zn (by rw [ya,hl,<- o];simp) fun j y u h1 g=>?_;obtain ⟨k,x,l,F⟩:=v j u (by simpa using g);rw [yd] at h1
   cases B:kvs[j]? with
   | none=>rw [B] at h1;cases h1
   | some b =>
    rw [B] at h1;cases h1;obtain ⟨O,C,G,N⟩:=qbJ D B;rw [l] at C;cases C;have E:b.1=k:=G;show RelV (kV b.1) u;rw [E];rcases qV (show qcI k u=true from F) with ⟨i,t,rfl,rfl⟩ | ⟨z,t,rfl,rfl⟩
    ·exact ⟨t,rfl⟩
    ·exact ⟨t,rfl⟩
  refine ⟨.ref s.heap.objs.size,_,I.laid (t':=tk) A (yh _) (show ObjOk X.prog X.w _ h' _ (.lst (kvs.map fun b=>kV b.1)) from ⟨by rw [ya];exact hz,a.toList,f,hv,by simpa using e⟩),rfl,q _ (I.hok.fresh (yh _))⟩
 ·obtain ⟨u,rfl,t,rfl⟩:=qaO r;have hsz:x.cps.size<=sizeLine:=Yc (qi hx);refine call_list_str (I.ok.hd hc) x t (fun h' tk a f A e it=>?_) hsz;obtain ⟨o,v⟩:=it
  have hv:Vals (x.cps.toList.map fun c=>V.str ⟨#[c]⟩) a.toList:=by
   refine zn (by rw [ya];simp [o]) fun j y u h1 g=>?_;obtain ⟨c,t',l,rfl⟩:=v j u (by simpa using g);rw [yd] at h1;have m:x.cps.toList[j]?=some c:=by simpa using l
   rw [m] at h1;cases h1;exact ⟨t',rfl⟩
  refine ⟨.ref s.heap.objs.size,_,I.laid (t':=tk) A (yh _) (show ObjOk X.prog X.w _ h' _ (.lst (x.cps.toList.map fun c=>V.str ⟨#[c]⟩)) from ⟨by rw [ya];simpa using hsz,a.toList,f,hv,by simpa using e⟩),rfl,q _ (I.hok.fresh (yh _))⟩
end
structure CMethOk (P:Program) (w:World) (K:yg) (mg:Str->Option Value) (base:Heap) (CX:CXT) (k:Nat) (C:Addr) (x m:Str) (ps:List Str) (sp:Sp):Prop where
 ex:∃ f fd,FnOk P w K mg base CX k f fd ps sp/\CMeth K C m f/\Binds K fd ps []
 mg_:mg x=some (.ref C)
section
variable {X:Cx} {k:Nat} {C:Addr} {ps:List Str} {sp:Sp} {x m:Str} {p pos apos:Pos} {e:Expr} {es:List Expr} {t:TA}
theorem qaV (D:MakeOk X.prog X.w X.K X.mg X.base CX0 k C x ps sp) (i:Room (k+1) X.A) (c:PA X (e::es) t) (h:Gl X x:=by rfl) (a:(x==("__debug__":Str))=false:=by decide)
  (g:starEach (e::es) X.env=(false,eval e X.env)::starEach es X.env:=by rfl) (b:(backTo pos (starEach es X.env)).any (·.1)=false:=by rfl):PE X (.Call (.Name x p) (e::es) [] pos) (qfd C sp [] E0 t):=by
 obtain ⟨f,j,F,M,d⟩:=D.ex;exact pe_make M F i h D.mg_ d .nil qz c a g b
theorem pe_clsmQ {pl:Sem Bool} (D:CMethOk X.prog X.w X.K X.mg X.base CX0 k C x m ps sp) (i:Room k X.A) (d:PA X (e::es) t) (h:Gl X x:=by rfl) (a:(x==("__debug__":Str))=false:=by decide)
  (c:starEach (e::es) X.env=(false,eval e X.env)::starEach es X.env:=by rfl) (b:(backTo pos (starEach es X.env)).any (·.1)=false:=by rfl)
  (j:eval (.Call (.Attribute (.Name x p) m apos) (e::es) [] pos) X.env=(do
   let ov <- eval (.Name x p) X.env
   standAt apos.atName
   let (f,first) <- holding [ov] (getMethod ov m pl)
   callWith pos f first (backTo pos (starEach (e::es) X.env)) (backToKw pos (keywordEach [] X.env))):=by rfl) :
  PE X (.Call (.Attribute (.Name x p) m apos) (e::es) [] pos) (qdP sp [] E0 t):=by
 obtain ⟨f,l,F,M,g⟩:=D.ex;exact pe_clsm (pl:=pl) M F i h D.mg_ g qz d a c b j
end
theorem own_eq_same {prog:Program} {w:World} {A:Around} {E:Value->Shared->Prop} {s:Shared} {K:yg} {x C:Addr} {ox:Obj} {od:Option Obj} {Q:Value->Shared->Prop} (l:A.units<cLine) (X:K.In s.heap) (I:PySem.W.InstAt s.heap x ox C od)
  (j:PySem.W.findIn K (.ref C) "__eq__"=some (some (.builtin "object.__eq__"))) (g:PySem.W.mroIn K C (.type "object")=some true) (h:Q (.bool true) s):wpAny (model prog w) A (richCompare .Eq (.ref x) (.ref x)) Q E s:=by
 have a:∀ {f:Around} {d:Value->Shared->Prop},d (.bool true) s->wpAny (model prog w) f (call (.builtin "object.__eq__") [.ref x,.ref x]) d E s:=fun {f d} q=>by
  refine xW (xI PySem.F.slot_object_eq.plain PySem.F.entry_object_eq (@PySem.W.check_slot (model prog w) _ _ s "object.__eq__" "object" "__eq__" (.ref x) [.ref x] [] _ (by decide +kernel) (by decide +kernel) (I.type.andThen (xq X g)) (PySem.F.args_object_eq_2 _ _) ?_));refine yr (yw (yr (wpAny_isSame_ref_self ?_)));exact yw q
 have one:wpAny (model prog w) A (tryCompare (.ref x) "__eq__" (.ref x)) (fun r s'=>∃ v,r=some v/\Q v s') E s:=by
  unfold tryCompare;refine yr ?_;simp only [callSpecialIfBound?,bindSpecialIfBound?];refine Ys (yr (yr (yr (I.type.here ((YO X j).here ?_)))));refine yr (kQ (wpAny_ite ?_));have b:=PySem.F.slot_object_eq.bind (.ref x)
  have c:wpAny (model prog w) A (call (.builtin "object.__eq__") ([.ref x]++[.ref x])>>=fun v=>pure (some v)) (fun r s'=>wpAny (model prog w) A (match r with | some .notImplemented | none=>pure none | some v=>pure (some v)) (fun r s'=>∃ v,r=some v/\Q v s') E s') E s:=
   yr (a (yw (yw ⟨_,rfl,h⟩)))
  split
  ·exact yr (Y8 b (yw c))
  ·exact wpAny_tryCatch (yr (Y8 b (yw c)))
 unfold richCompare;simp only [oneThing_ref];refine Ys (yr (wpAny_cRoomFor l ?_));refine yr (I.type.here (yr (I.type.here ?_)));rw [yy (by simp)];refine yr (yw ?_);simp only [YQ,Xc];refine yr (YF one (fun r s' z=>?_) fun _ _ e=>e);obtain ⟨v,rfl,i⟩:=z;exact yw i
structure OEq (K:yg) (C:Addr):Prop where
 eq:PySem.W.findIn K (.ref C) "__eq__"=some (some (.builtin "object.__eq__"))
 ob:PySem.W.mroIn K C (.type "object")=some true
def qgD (K:yg):R2:=fun x y H Q=>qfg K false x y H Q\/∃ a C dx fs,x=.ref a/\y=.ref a/\H a=some (.ins C dx fs)/\OEq K C/\Q (.bl true) H
theorem k_eqW {X:Cx} {K:yg} (d:X.K=K) (e:X.A.units+100<cLine):OpR X (compareOp .Eq) (qgD K):=by
 subst d;intro pins s σ H x y u v Q I b c h;rcases h with h | ⟨a,C,dx,fs,rfl,rfl,ea,oe,q⟩
 ·exact k_eqU rfl e pins s σ H x y u v Q I b c h
 ·cases b;cases c;obtain ⟨f,O,_⟩:=qaH I.hok ea;obtain ⟨od,J,_⟩:=O.look;exact own_eq_same (by omega) I.kIn J oe.eq oe.ob ⟨.bl true,H,I,rfl,q⟩
theorem qM {X:Cx}:MtR X "list.append" qdW:=mt_append
theorem qbK {X:Cx}:MtR X "list.extend" qdX:=mt_extend
theorem mtR_popAt {X:Cx}:MtR X "list.pop" qeM:=mt_popAt
theorem zL:bootBuiltins "ValueError"=some (.type "ValueError"):=by decide +kernel
section
variable {D:Ends} {σ:St} {H:Hp} {Q:VK} {t u:TS} {te ta tb tc:TE} {tas:TA} {K:yg} {sp:Sp} {E:XK} {EK:St->XK} {C:Addr} {f m:Str}
theorem vFldU (h:ta σ H fun x b=>(∃ a C dx fs v,x=.ref a/\b a=some (.ins C dx fs)/\Cls K C/\NoAttr K C f/\fs.lookup f=some v/\Q v b) \/
 (∃ a C dx fs v,x=.ref a/\IsX b a C (some dx)/\XAt K C/\NoAttr K C f/\b dx=some (.xd fs)/\fs.lookup f=some v/\Q v b)):qfN K ta f σ H Q:=h
theorem vSFldU (h:te σ H fun y c=>ta σ c fun x b=>(∃ a C dx fs,x=.ref a/\b a=some (.ins C dx fs)/\Cls K C/\NoAttr K C f/\fs.length<1000/\D.nx σ (upd b a (.ins C dx (qE f y fs)))) \/
 (∃ a C,x=.ref a/\b a=some (XN a C none)/\XAt K C/\NoAttr K C f/\∀ dx,b dx=none->D.nx σ (upd (upd b dx (.xd [(f,y)])) a (XN a C (some dx))))):qfO K ta te f D σ H:=h
theorem vXMake (h:tas σ H fun vs a=>vs.length<=1000/\∀ x,a x=none->sp (.ref x::vs) (upd a x (XN x C none)) (fun v b=>v=.non/\Q (.ref x) b) E):qd5 C sp E tas σ H Q:=h
theorem vMake (h:tas σ H fun vs a=>∀ x dx,a x=none->a dx=none->dx≠x->sp (.ref x::(vs++[])) (upd (upd a dx (.own x)) x (.ins C dx [])) (fun v b=>v=.non/\Q (.ref x) b) E):qfd C sp [] E tas σ H Q:=h
theorem vMeth (h:ta σ H fun x b=>∃ a dx fs,x=.ref a/\b a=some (.ins C dx fs)/\fs.lookup m=none/\tas σ b fun vs c=>sp (x::(vs++[])) c Q E):qdQ C m sp [] E ta tas σ H Q:=h
theorem vVinit (h:tas σ H fun vs b=>∃ a C y,vs=[.ref a,y]/\b a=some (XN a C none)/\XAt K C/\Q .non b):qeR K tas σ H Q:=h
theorem vCallS (h:tas σ H fun vs a=>sp vs a Q (EK σ)):qeV sp EK tas σ H Q:=h
theorem vMethS (h:ta σ H fun x b=>∃ a dx fs,x=.ref a/\b a=some (.ins C dx fs)/\fs.lookup m=none/\tas σ b fun vs c=>sp (x::vs) c Q (EK σ)):qeW C m sp EK ta tas σ H Q:=h
theorem vMakeS (h:tas σ H fun vs a=>∀ x dx,a x=none->a dx=none->dx≠x->sp (.ref x::vs) (upd (upd a dx (.own x)) x (.ins C dx [])) (fun v b=>v=.non/\Q (.ref x) b) (EK σ)):tMakeS C sp EK tas σ H Q:=h
theorem vRaise (h:te σ H fun x b=>∃ a C dx,x=.ref a/\b a=some (XN a C dx)/\XAt K C/\EK σ (.ref C) dx (upd b a (XO a C dx))):qeU K EK te D σ H:=h
theorem qbx {x y:V} {t a:Value} {b:Bool} (ty:TyX K H x t) (d:qcs y=some a) (c:PySem.W.kitOne K t a=some b) (h:Q (.bl b) H):qfP K [x,y] H Q:=⟨x,y,t,a,b,rfl,ty,d,c,h⟩
end
section
variable {prog:Program} {w:World} {A:Around} {E:Value->Shared->Prop} {s:Shared}
theorem none_dict {a:Addr} {Q:Value->Shared->Prop} (d:s.TypeIs (.ref a) "dict") (e:A.units<cLine) (h:Q (.bool false) s):wpAny (model prog w) A (richCompare .Eq .none (.ref a)) Q E s:=by
 refine SeqAt.rc_eq_decline_or (k:=false) rfl d (by decide) PySem.F.sub_dict_NoneType YW PySem.F.slot_dict_eq_refl
  (fun _ c=>call_gives YW rfl PySem.F.entry_NoneType_eq (PySem.F.args_NoneType_eq_2 _ _) (SeqAt.NoneType___eq___none_ref_0 a) c) (fun f c=>?_) (fun _ c=>Y8 (rfl:isSame .none (.ref a)=pure false) c) (.inr e) h
 refine X8 PySem.F.slot_dict_eq_refl d PySem.F.entry_dict_eq ?_ (PySem.F.args_dict_eq_2 _ _);show wpAny _ _ (Builtin.Dict.dictSlotArgs "__eq__" ⟨[.ref a,.none],[]⟩>>=_) _ _ s;refine yr ?_;unfold Builtin.Dict.dictSlotArgs;refine yr (wpAny_notOrdered_dict d ?_);show wpAny _ _ (pure (Value.ref a,Value.none)) _ _ s;refine yw ?_;refine yr (wpAny_isInstance (T:="NoneType") (b:=false) rfl PySem.F.sub_NoneType_dict ?_);simp only [Ke,Xz];exact yr (wpAny_rule (yw ⟨_,rfl,c⟩))
theorem none_own {K:yg} {x C:Addr} {ox:Obj} {od:Option Obj} {Q:Value->Shared->Prop} (i:A.units<cLine) (X:K.In s.heap) (I:PySem.W.InstAt s.heap x ox C od) (f:OEq K C) (g:PySem.W.mroIn K C (.type "NoneType")=some false)
  (h:Q (.bool false) s):wpAny (model prog w) A (richCompare .Eq .none (.ref x)) Q E s:=by
 have j:wpAny (model prog w) A (tryCompare .none "__eq__" (.ref x)) (fun r s'=>r=none/\s'=s) E s:=by
  unfold tryCompare;refine yr ?_;simp only [callSpecialIfBound?,bindSpecialIfBound?];refine Ys (yr (yr ?_));refine yr (Y8 (rfl:typeOf .none=pure (.type "NoneType")) ?_);refine Y8 YW.lookup ?_;refine yr (kQ (wpAny_ite ?_))
  have a:wpAny (model prog w) A (call (.builtin "NoneType.__eq__") ([.none]++[.ref x])>>=fun v=>pure (some v)) (fun r s'=>wpAny (model prog w) A (match r with | some .notImplemented | none=>pure none | some v=>pure (some v)) (fun r s'=>r=none/\s'=s) E s') E s:=
   yr (call_gives YW rfl PySem.F.entry_NoneType_eq (PySem.F.args_NoneType_eq_2 _ _) (SeqAt.NoneType___eq___none_ref_0 x) (yw (yw ⟨rfl,rfl⟩)))
  split
  ·exact yr (Y8 (YW.bind .none) (yw a))
  ·exact wpAny_tryCatch (yr (Y8 (YW.bind .none) (yw a)))
 have l:wpAny (model prog w) A (tryCompare (.ref x) "__eq__" .none) (fun r s'=>r=none/\s'=s) E s:=by
  unfold tryCompare;refine yr ?_;simp only [callSpecialIfBound?,bindSpecialIfBound?];refine Ys (yr (yr (yr (I.type.here ((YO X f.eq).here ?_)))));refine yr (kQ (wpAny_ite ?_));have b:=PySem.F.slot_object_eq.bind (.ref x)
  have c:∀ {d:Value->Shared->Prop},d .notImplemented s->wpAny (model prog w) A (call (.builtin "object.__eq__") [.ref x,.none]) d E s:=fun {d} q=>by
   refine xW (xI PySem.F.slot_object_eq.plain PySem.F.entry_object_eq (@PySem.W.check_slot (model prog w) _ _ s "object.__eq__" "object" "__eq__" (.ref x) [.none] [] _ (by decide +kernel) (by decide +kernel) (I.type.andThen (xq X f.ob)) (PySem.F.args_object_eq_2 _ _) ?_));refine yr (yw (yr (Y8 (rfl:isSame (.ref x) .none=pure false) ?_)));exact yw q
  have a:wpAny (model prog w) A (call (.builtin "object.__eq__") ([.ref x]++[.none])>>=fun v=>pure (some v)) (fun r s'=>wpAny (model prog w) A (match r with | some .notImplemented | none=>pure none | some v=>pure (some v)) (fun r s'=>r=none/\s'=s) E s') E s:=
   yr (c (yw (yw ⟨rfl,rfl⟩)))
  split
  ·exact yr (Y8 b (yw a))
  ·exact wpAny_tryCatch (yr (Y8 b (yw a)))
 unfold richCompare;refine Ys (yr (wpAny_cRoomFor i ?_));show wpAny _ _ (typeOf .none>>=_) _ _ _;refine yr (Y8 (rfl:typeOf .none=pure (.type "NoneType")) (yr (I.type.here ?_)));rw [yF (by rfl)];refine yr ((xq X g).here ?_);simp only [YQ,Xc];refine yr (YF j (fun r s' z=>?_) fun _ _ e=>e);obtain ⟨rfl,rfl⟩:=z;simp only [Ke,Xz];refine yr (YF l (fun r s' z=>?_) fun _ _ e=>e);obtain ⟨rfl,rfl⟩:=z;refine yr (wpAny_rule (yr (Y8 (rfl:isSame .none (.ref x)=pure false) (yw h))))
end
def rNoneRef (K:yg):R2:=fun x y H Q=>∃ a,x=.non/\y=.ref a/\((∃ xs,SqL K H a xs\/SqT K H a xs)\/(∃ kvs,H a=some (.dK kvs))\/∃ C dx fs,H a=some (.ins C dx fs)/\OEq K C/\PySem.W.mroIn K C (.type "NoneType")=some false)/\Q (.bl false) H
def qf3 (K:yg):R2:=fun x y H Q=>qgD K x y H Q\/rNoneRef K x y H Q
theorem zM {X:Cx} {K:yg} (e:X.K=K) (j:X.A.units+100<cLine):OpR X (compareOp .Eq) (qf3 K):=by
 intro pins s σ H x y u v Q I f g h;rcases h with h | ⟨a,rfl,rfl,h,q⟩
 ·exact k_eqW e j pins s σ H x y u v Q I f g h
 ·subst e;cases f;cases g;have b:EP X pins σ Q (.bool false) s:=⟨.bl false,H,I,rfl,q⟩;rcases h with ⟨xs,hl | hl⟩ | ⟨kvs,c⟩ | ⟨C,dx,fs,c,l,i⟩
  ·obtain ⟨its,r,pl,_⟩:=I.list hl;exact SeqAt.RcAt.none_list pl.isList (by omega) _ _ _ _ b
  ·obtain ⟨its,r,pl,_⟩:=I.tuple hl;exact SeqAt.RcAt.none_tuple pl (by omega) _ _ _ _ b
  ·obtain ⟨_,_,vs,_,d⟩:=(show ObjOk X.prog X.w H s.heap a (.dK kvs) from I.hok a _ c);exact none_dict d.typeIs (by omega) b
  ·obtain ⟨m,O,_⟩:=qaH I.hok c;obtain ⟨od,J,_⟩:=O.look;exact none_own (by omega) I.kIn J l i b
def XL (K:yg) (C:Addr) (d:List Value):Prop:=∃ l m N bs a sn sub c b e f g h i j,K.lookup C=some (excClassObj l m C N bs d a sn sub c b e f g h i j "ValueError.__new__")
section
variable {K:yg} {C D:Addr} {bm bn:List Value}
theorem XL.xat (x:XL K C bm) (a:qb9 bm=true)
  (h:PySem.W.findIn K (.ref C) "__getattribute__"=some (some (.builtin "BaseException.__getattribute__"))) (i:PySem.W.findIn K (.ref C) "__getattr__"=some none)
  (c:PySem.W.mroIn K C (.type "BaseException")=some true) (l:PySem.W.mroIn K C (.type "object")=some true) (j:PySem.W.hasDictIn K C=true) (f:PySem.W.findIn K (.ref C) "__class__"=some (some (.builtin "object.__class__")))
  (d:PySem.W.specialIn K (.builtin "object.__class__") "__get__"=some (some (.builtin "getset_descriptor.__get__"))) (ct:PySem.W.takesIn K (.builtin "object.__class__")=some true)
  (m:PySem.W.findIn K (.ref C) "__setattr__"=some (some (.builtin "object.__setattr__"))):XAt K C:=by
 obtain ⟨u,v,N,bs,b,sn,sub,n,g,o,p,q,r,s,t,e⟩:=x;refine ⟨h,i,c,l,j,f,d,ct,m,?_,?_⟩
 ·unfold PySem.W.clsIn;rw [e];exact a
 ·unfold qf1;rw [e];simp [a]
theorem XL.kit (x:XL K C bm) (y:XL K D bn):PySem.W.kitOne K (.ref C) (.ref D)=some ((Value.ref C::bm).contains (.ref D)):=by
 obtain ⟨I,J,N,bs,d,sn,sub,w,i,A,B,E,F,G,H,e⟩:=x;obtain ⟨q,t,v,h,a,u,f,g,b,j,l,m,n,o,p,c⟩:=y;unfold PySem.W.kitOne PySem.W.kitCls;split
 ·rename_i z
  have z:C=D:=kf (Yk.mp z);subst z;simp
 ·dsimp only;have r:(PySem.W.clsIn K D).isSome=true:=by unfold PySem.W.clsIn;rw [c];rfl
  have s:(PySem.W.typeIn K (.ref D)==some (.type "type"))=true:=by show ((K.lookup D).map (·.cls)==_)=true;rw [c];rfl
  rw [yF (by rw [r,s];rfl)];unfold PySem.W.subIn PySem.W.mroIn PySem.W.clsIn;dsimp only;rw [e];rfl
theorem XL.kitT (x:XL K C bm) {T:String} (h:PySem.W.kitMeta T=true):PySem.W.kitOne K (.ref C) (.type T)=some (bm.contains (.type T)):=by
 obtain ⟨m,n,N,bs,a,sn,sub,c,b,d,f,g,i,j,l,e⟩:=x;unfold PySem.W.kitOne PySem.W.kitCls;split
 ·rename_i z
  exact absurd (Yk.mp z) nofun
 ·dsimp only;rw [yF h];unfold PySem.W.subIn PySem.W.mroIn PySem.W.clsIn;dsimp only;rw [e];show some ((Value.ref C::bm).contains _)=_;rw [Yt];rfl
noncomputable abbrev qcv:List Value:=[.type "ValueError",.type "Exception",.type "BaseException",.type "object"]
theorem qd8:qb9 qcv=true:=by decide
theorem qd9 {c:Addr}:qb9 (.ref c::qcv)=true:=qd8
theorem kits {K:yg} {a:List Addr} {c:Addr} (n:(a++[c]).Nodup) (h:∀ i,i<a.length->XL K (a.getD i c) (.ref c::qcv)) (hc:XL K c qcv) :
  (∀ i j,i<a.length->j<a.length->PySem.W.kitOne K (.ref (a.getD i c)) (.ref (a.getD j c))=some (decide (i=j)))/\(∀ i,i<a.length+1->PySem.W.kitOne K (.ref (a.getD i c)) (.ref c)=some true) /\
  (∀ i,i<a.length+1->PySem.W.kitOne K (.ref (a.getD i c)) (.type "ValueError")=some true)/\∀ j,j<a.length->PySem.W.kitOne K (.ref c) (.ref (a.getD j c))=some false:=by
 have m:∀ (j:Nat) (b:j<a.length),a.getD j c=a[j]:=fun j b=>by simp [List.getD,b]
 have hl:a.getD a.length c=c:=by simp
 have g:∀ j,j<a.length->c≠a.getD j c:=fun j b e=>by
  have s:=(Yi.mp n).2.2 (a.getD j c) (by rw [m j b];exact xQ b) c (by simp);exact s e.symm
 refine ⟨fun i j f b=>?_,fun i f=>?_,fun i f=>?_,fun j b=>?_⟩
 ·rw [(h i f).kit (h j b)]
  congr 1
  rw [Yt,Yt];have l:((Value.ref (a.getD j c))==Value.ref c)=false:=Yx.mpr fun e=>g j b (kf e).symm;have p:List.contains qcv (Value.ref (a.getD j c))=false:=rfl;rw [l,p];by_cases d:i=j
  ·subst d;simp
  ·have r:((Value.ref (a.getD j c))==Value.ref (a.getD i c))=false:=Yx.mpr fun e=>by
    have e:=kf e;rw [m i f,m j b] at e;have o:=xA.mp (Yi.mp n).1;rcases Nat.lt_or_gt_of_ne d with q | q
    ·exact o i j f b q e.symm
    ·exact o j i b f q e
   rw [r];simp [d]
 ·rcases Nat.lt_or_ge i a.length with hi' | hi'
  ·rw [(h i hi').kit hc,Yt,Yt];simp
  ·have:i=a.length:=by omega
   subst this;rw [hl,hc.kit hc];simp
 ·rcases Nat.lt_or_ge i a.length with hi' | hi'
  ·rw [(h i hi').kitT (by decide +kernel)];rfl
  ·have:i=a.length:=by omega
   subst this;rw [hl,hc.kitT (by decide +kernel)];rfl
 ·rw [hc.kit (h j b),Yt];have l:((Value.ref (a.getD j c))==Value.ref c)=false:=Yx.mpr fun e=>g j b (kf e).symm;rw [l];rfl
end
end L2
namespace HT
open PySem PySem.Spec PyProof.Rows
section
variable {prog:Program} {w:World} {A:Around} {E:Value->Shared->Prop} {s:Shared}
end
end HT
namespace L2
open PySem PySem.Spec PyProof.Rows
variable {H:Hp} {σ:St}
def tRev (K:yg) (d:TE) (e:TO):TE:=fun σ H Q=>d σ H fun x c=>e σ c fun o b=>o=some (-1)/\∃ a y z,x=.ref a/\SqT K b a [y,z]/\∀ p,b p=none->Q (.ref p) (upd b p (.tup [z,y]))
theorem vRev {K:yg} {c:TE} {d:TO} {Q:VK} (h:c σ H fun x e=>d σ e fun o b=>o=some (-1)/\∃ a y z,x=.ref a/\SqT K b a [y,z]/\∀ p,b p=none->Q (.ref p) (upd b p (.tup [z,y]))):tRev K c d σ H Q:=h
section
variable {X:Cx} {K:yg} {e st:Expr} {te:TE} {ts:TO} {p2 pos:Pos}
def rTupleU (K:yg):List V->Hp->VK->Prop:=fun xs H Q=>∃ p ys,xs=[.ref p]/\((SqL K H p ys/\∀ l,H l=none->Q (.ref l) (upd H l (.tup ys)))\/(SqT K H p ys/\Q (.ref p) H))
theorem k_tupleU (a:X.K=K):zm X (.type "tuple") (rTupleU K):=by subst a;exact call_tuple_of
end
theorem Inv.turnedL {X:Cx} {a:List (Addr×Obj)} {s:Shared} {h':Heap} {t':Nat} {fp:List Addr} (I:Inv X a σ H s) (k:∀ b o,b∉fp->s.heap.get? b=some o->h'.get? b=some o) (f:∀ b∈fp,qcJ X a H b):Inv X a σ H { s with heap:=h',toks:=t' }:=by
 have d:∀ b u,H b=some u->b∉fp:=fun b u e z=>by rw [(f b z).1] at e;cases e
 have p:X.env.locals∉fp:=fun z=>(f _ z).2.1 rfl;refine I.step (g':=s.gens) (d':=s.drawn) (ch:=fp) (fun b t=>?_) (fun b o _ _ hc e _=>k b o hc e) (fun b o _ _ hc e _=>⟨o.slots,k b o hc e⟩) (fun _ _ _ _ n=>n)
  (fun b o hc e=>⟨o,k b o hc e⟩) (fun _ _ e=>e) (fun _ _ _ e=>e) (fun b B e=>⟨#[],by rw [e];simp⟩) (fun m w=>?_) (fun b u e=>?_) I.bare
 ·obtain ⟨y,h,A,i,j,l⟩:=f b t;exact ⟨i,h,j,l⟩
 ·obtain ⟨o,g,ep,x,r⟩:=w;exact ⟨o,g,ep,k _ o p x,r⟩
 ·refine (I.hok b u e).stay (fun c v hc q=>k c v ?_ q) (fun _ q=>q) fun _ _ q=>q;rcases hc with z | z
  ·rw [z];exact d b u e
  ·exact d c _ z
noncomputable def Ite (K:yg) (a:Addr):It:=
 ⟨fun i H=>∃ xs x,SqL K H a xs/\xs[i]?=some x,fun i H x H'=>∃ t y,x=.ref t/\H t=none/\H'=upd H t (.tup [.int i,y])/\∀ xs,SqL K H a xs->xs[i]?=some y,fun i H=>∃ xs,SqL K H a xs/\xs.length<=i⟩
theorem push_some {h:Heap} {o v:Obj} {b:Addr} (e:(h.push o).get? b=some v) (ne:b≠h.objs.size):h.get? b=some v:=(Heap.get?_push_cases e).elim (fun z=>absurd z.1 ne) fun z=>z
def iEnum (K:yg) (c:TA):TI:=fun σ H R=>c σ H fun vs b=>∃ a xs,vs=[.ref a]/\SqL K b a xs/\R (Ite K a) b
theorem vEnum {K:yg} {b:TA} {R:It->Hp->Prop} (h:b σ H fun vs c=>∃ a xs,vs=[.ref a]/\SqL K c a xs/\R (Ite K a) c):iEnum K b σ H R:=h
section
variable {X:Cx}
end
end L2
namespace L2
open PySem PySem.Spec PyProof.Rows PySem.Builtin PySem.Builtin.Str
theorem qfQ {a c:Nat} (h:a+100<c):a+1<c:=by omega
theorem vDGet2 {e ty f:TE} {b:St} {H:Hp} {Q:VK} (h:e b H fun x c=>∃ a,x=.ref a/\IsD c a/\ty b c fun y g=>f b g fun z d=>∃ o,DGet d a y o/\Q (o.getD z) d):tDGet2 e ty f b H Q:=h
end L2
namespace L2
open PySem PySem.Spec PyProof.Rows
theorem eqV_strD (a b:Str):eqV (.str a) (.str b)=decide (a=b):=by
 have e:eqV (.str a) (.str b)=(a==b):=by simp [eqV]
 rw [e,Yw,Yk,yQ]
theorem qcw:∀ (ys:List Str) (y:Str) (m:Nat) (b:m<ys.length),m<ys.idxOf y->ys[m]≠y
 | [],_,_,b,_=>by simp at b
 | a::r,y,m,b,h=>by
  rw [List.idxOf_cons] at h;by_cases e:a=y
  ·subst e;simp at h
  ·have c:(a==y)=false:=Yx.mpr e;rw [c] at h
   cases m with
   | zero=>exact e
   | succ k =>
    have d:k<r.idxOf y:=by
     have h:k+1<r.idxOf y+1:=h;omega
    exact qcw r y k (by simpa using b) d
section
variable {X:Cx} {K:yg}
def rIndex (K:yg):V->List V->Hp->VK->Prop:=fun x vs H Q=>∃ (p:Addr) (ys:List Str) (y:Str),x=.ref p/\vs=[.str y]/\SqL K H p (ys.map V.str)/\y∈ys/\Q (.int (ys.idxOf y:Nat)) H
theorem qcR (A:X.K=K):MtR X "list.index" (rIndex K):=by
 subst A;intro t s N H x vs v us Q I J G h;obtain ⟨p,ys,y,rfl,rfl,B,D,q⟩:=h;cases J;obtain ⟨u,rfl,E⟩:=G.one;obtain ⟨a,r,pl,hz⟩:=I.list B;obtain ⟨⟨cls,z,data,L⟩,o,hc,n,l⟩:=id pl.isList;simp only at hc l;subst hc l;have fs:(ys.map V.str).all j5=true:=by rw [kY];exact Yz.mpr fun _ _=>rfl
 have b:(ys.map V.str).length=a.length:=r.length;rw [ya] at b;have d:ys.idxOf y<ys.length:=List.idxOf_lt_length_iff.mpr D
 have at_:∀ (m:Nat) (i:m<ys.length) (c:m<a.toArray.size),eqU (.str y) a.toArray[m]=decide (ys[m]=y):=fun m i c=>by
  have g:(ys.map V.str)[m]?=some (.str ys[m]):=by rw [yd,yb i];rfl
  obtain ⟨w,hw,j⟩:=r.get g
  have e:a.toArray[m]=w:=by
   have:a.toArray[m]?=some w:=by simpa using hw
   rw [xB c] at this;exact ym this
  rw [e,qdV j rfl,eqV_strD]
 have M:ys.length<=sizeLine:=by rw [ya] at hz;exact hz
 have C:sizeLine<2 ^ 63-1:=by decide
 refine kE xR ⟨_,o,rfl⟩ PySem.F.entry_list_index (PySem.F.args_list_index_2 _ _)
  (SeqAt.list_indexAt p a.toArray n z L u (eqU (.str y)) (ys.idxOf y) (by simpa [<- b] using d) (by omega) ?_ ?_) ⟨o,fun w hw=>zV E rfl r fs w (by simpa using hw),.int _,H,I.tok _,⟨_,rfl⟩,q⟩
 ·rw [at_ _ d];exact yB (YY d)
 ·intro m i f;rw [at_ m (by omega)];exact yl fun e=>qcw ys y m (by omega) f e
end
theorem qbm (xs:List V) (k:Nat):qcL xs none (some (k:Int))=xs.take k:=by
 unfold qcL;rw [HT.sIx_none,HT.sIx_nat,List.drop_zero,Ki];by_cases h:k<=xs.length
 ·rw [Ka h]
 ·rw [kR (by omega),Y5 (yh _),Y5 (by omega)]
theorem qcx (xs:List V) (k:Nat):qcL xs (some (k:Int)) none=xs.drop k:=by
 unfold qcL;rw [HT.sIx_none,HT.sIx_nat];by_cases h:k<=xs.length
 ·rw [Ka h,Y5 (by rw [kO];omega)]
 ·rw [kR (by omega),List.drop_length,List.drop_of_length_le (by omega)];simp
section
variable {X:Cx} {K:yg}
end
end L2
namespace HT
open PySem PySem.Spec PyProof.Rows
section
variable {prog:Program} {w:World} {A:Around} {E:Value->Shared->Prop} {s:Shared}
end
end HT
namespace L2
open PySem PySem.Spec PyProof.Rows
def tStep (K:yg) (e:TE) (f:TO):TE:=fun c H Q=>e c H fun x d=>f c d fun o b=>∃ a y z,x=.ref a/\SqT K b a [y,z]/\((o=some (-1)/\∀ p,b p=none->Q (.ref p) (upd b p (.tup [z,y])))\/(o=some 1/\Q (.ref a) b))
theorem vStep {K:yg} {d:TE} {e:TO} {c:St} {H:Hp} {Q:VK} (h:d c H fun x f=>e c f fun o b=>∃ a y z,x=.ref a/\SqT K b a [y,z]/\((o=some (-1)/\∀ p,b p=none->Q (.ref p) (upd b p (.tup [z,y])))\/(o=some 1/\Q (.ref a) b))):tStep K d e c H Q:=h
section
variable {X:Cx} {K:yg} {e st:Expr} {te:TE} {ts:TO} {p2 pos:Pos}
end
def FG (K:yg) (a:Str) (st:Stmt):Prop:=∃ f b,PySem.W.nsIn K mainGlobals a=some (some (.ref f))/\Fun K a a st f b
def FM (K:yg) (C:Addr) (m b:Str) (st:Stmt):Prop:=∃ f a,PySem.W.findIn K (.ref C) m=some (some (.ref f))/\PySem.W.isFn K (.ref f)=true/\Fun K m b st f a
def FC (K:yg) (C:Addr) (m b:Str) (st:Stmt):Prop:=∃ f a,PySem.W.findCls K (.ref C) (.type "type") m=some (.val (.ref f))/\Fun K m b st f a
structure XQ (K:yg) (C:Addr):Prop where
 xa:PySem.W.findIn K (.ref C) "__getattribute__"=some (some (.builtin "BaseException.__getattribute__"))
 xb:PySem.W.findIn K (.ref C) "__getattr__"=some none
 xd:PySem.W.mroIn K C (.type "BaseException")=some true
 xe:PySem.W.mroIn K C (.type "object")=some true
 xf:PySem.W.hasDictIn K C=true
 xg:PySem.W.findIn K (.ref C) "__class__"=some (some (.builtin "object.__class__"))
 xh:PySem.W.findIn K (.ref C) "__setattr__"=some (some (.builtin "object.__setattr__"))
 p:PySem.W.keepIn K (.ref C)=true
section
variable {P:Program} {w:World} {K:yg} {mg:Str->Option Value} {base h:Heap} {CX:CXT} {k:Nat} {sp:Sp} {st:Stmt} {f:Addr} {fd:FuncData} {ps:List Str} {nm m ql x:Str} {C:Addr}
theorem lN0 {P:List Value->Prop} (h:P []):∀ us:List Value,us.length=0->P us:=fun us e=>by rw [List.eq_nil_of_length_eq_zero e];exact h
theorem lNs {P:List Value->Prop} {n:Nat} (h:∀ a r,r.length=n->P (a::r)):∀ us:List Value,us.length=n+1->P us:=fun us e=>by
 cases us with
 |nil=>cases e
 |cons a r=>exact h a r (Nat.succ.inj e)
theorem lN1 {P:List Value->Prop} (h:∀ a,P [a]):∀ us:List Value,us.length=1->P us:=lNs fun a=>lN0 (h a)
theorem lN2 {P:List Value->Prop} (h:∀ a b,P [a,b]):∀ us:List Value,us.length=2->P us:=lNs fun a=>lN1 (h a)
theorem lN3 {P:List Value->Prop} (h:∀ a b c,P [a,b,c]):∀ us:List Value,us.length=3->P us:=lNs fun a=>lN2 (h a)
theorem lN4 {P:List Value->Prop} (h:∀ a b c d,P [a,b,c,d]):∀ us:List Value,us.length=4->P us:=lNs fun a=>lN3 (h a)
abbrev BA (x ql:Str) (st:Stmt) (ps:List Str):Prop:=∀ (kV b d:Value) (c:Option Addr) (a ct:Value) (us:List Value),us.length=ps.length->bindArgs (PySem.W.fnOf x ql (qah st) (zt st) (qg st) .none kV b d c a ct) ⟨us,[]⟩=pure (ps.zip us)
theorem fg_mk (X:K.In h) (G:h.Ns mainGlobals mg) (a:PySem.W.nsIn K mainGlobals nm=some (some (.ref f))) (F:Fun K nm nm st f fd) (o:FnOk P w K mg base CX k f fd ps sp)
  (b:BA nm nm st ps:=by first | (exact fun _ _ _ _ _ _=>lN1 fun _=>rfl) | (exact fun _ _ _ _ _ _=>lN2 fun _ _=>rfl) | (exact fun _ _ _ _ _ _=>lN3 fun _ _ _=>rfl) | (exact fun _ _ _ _ _ _=>lN4 fun _ _ _ _=>rfl)) :
  DefOk P w K mg base CX k nm ps sp:=⟨_,_,o,kL X G a,F.kp,F.binds b⟩
theorem fm_mk (b:Cls K C) (a:PySem.W.findIn K (.ref C) m=some (some (.ref f))) (n:PySem.W.isFn K (.ref f)=true) (F:Fun K m ql st f fd) (o:FnOk P w K mg base CX k f fd ps sp)
  (c:BA m ql st ps:=by first | (exact fun _ _ _ _ _ _=>lN1 fun _=>rfl) | (exact fun _ _ _ _ _ _=>lN2 fun _ _=>rfl) | (exact fun _ _ _ _ _ _=>lN3 fun _ _ _=>rfl) | (exact fun _ _ _ _ _ _=>lN4 fun _ _ _ _=>rfl)) :
  MethOk P w K mg base CX k C m ps sp:=⟨⟨_,_,o,⟨a,n,F.kp⟩,F.binds c⟩,b⟩
theorem fw_mk (X:K.In h) (G:h.Ns mainGlobals mg) (c:PySem.W.nsIn K mainGlobals x=some (some (.ref C))) (d:PySem.W.makesIn K C=true) (e:PySem.W.keepIn K (.ref C)=true) (a:PySem.W.findIn K (.ref C) "__init__"=some (some (.ref f))) (n:PySem.W.isFn K (.ref f)=true) (F:Fun K "__init__" ql st f fd) (o:FnOk P w K mg base CX k f fd ps sp)
  (b:BA "__init__" ql st ps:=by first | (exact fun _ _ _ _ _ _=>lN1 fun _=>rfl) | (exact fun _ _ _ _ _ _=>lN2 fun _ _=>rfl) | (exact fun _ _ _ _ _ _=>lN3 fun _ _ _=>rfl)) :
  MakeOk P w K mg base CX k C x ps sp:=⟨⟨_,_,o,⟨d,a,n,e⟩,F.binds b⟩,kL X G c⟩
theorem fx_mk (X:K.In h) (G:h.Ns mainGlobals mg) (c:PySem.W.nsIn K mainGlobals x=some (some (.ref C))) (Y:XAt K C) (q:XQ K C) (a:PySem.W.findIn K (.ref C) "__init__"=some (some (.ref f))) (n:PySem.W.isFn K (.ref f)=true) (F:Fun K "__init__" ql st f fd) (o:FnOk P w K mg base CX0 k f fd ps sp)
  (b:BA "__init__" ql st ps:=by first | (exact fun _ _ _ _ _ _=>lN1 fun _=>rfl) | (exact fun _ _ _ _ _ _=>lN2 fun _ _=>rfl)) :
  XMakeOk P w K mg base k C x ps sp:=⟨⟨_,_,o,⟨Y,a,n,q.p⟩,F.binds b⟩,kL X G c⟩
theorem fc_mk (X:K.In h) (G:h.Ns mainGlobals mg) (c:PySem.W.nsIn K mainGlobals x=some (some (.ref C))) (b:PySem.W.readsIn K C (.type "type")=true) (d:PySem.W.findCls K (.ref C) (.type "type") m=some (.val (.ref f))) (e:PySem.W.specialIn K (.ref C) "__getattribute__"=some (some (.builtin "type.__getattribute__"))) (F:Fun K m ql st f fd) (o:FnOk P w K mg base CX k f fd ps sp)
  (a:BA m ql st ps:=by (exact fun _ _ _ _ _ _=>lN2 fun _ _=>rfl)) :
  CMethOk P w K mg base CX k C x m ps sp:=⟨⟨_,_,o,⟨b,d,e,F.kp⟩,F.binds a⟩,kL X G c⟩
theorem qfh {c:List Value} (x:XL K C c) (d:qb9 c=true) (q:XQ K C) (a:PySem.W.specialIn K (.builtin "object.__class__") "__get__"=some (some (.builtin "getset_descriptor.__get__"))) (b:PySem.W.takesIn K (.builtin "object.__class__")=some true):XAt K C:=x.xat d q.xa q.xb q.xd q.xe q.xf q.xg a b q.xh
end
end L2
namespace HT
open PySem PySem.Spec PyProof.Rows
section
variable {prog:Program} {w:World} {A:Around} {E:Value->Shared->Prop} {s:Shared}
theorem assign_Tuple_list {env:Env} {b:List Expr} {x1} {d:Pos} {l:Addr} {a:Array Value} {Q:Unit->Shared->Prop} (e:A.handled=none) (hl:s.heap.IsList l a)
  (f:(assignEach b env).length=a.size) (c:(assignEach b env).findIdx? (·.1)=none)
  (h:∀ h',Heap.ExtBut s.heap.objs.size s.heap h'->wpAny (model prog w) A (assignInOrder ((assignEach b env).map (·.2)) a.toList) Q E { s with heap:=h' }) :
  wpAny (model prog w) A (assign (.Tuple b x1 d) env (.ref l)) Q E s:=by
 rw [assign_Tuple];refine yr (Xh ?_);unfold unpack;rw [f,c];exact yr (Ys (PySem.W.kun_itemsOf e hl h))
end
end HT
namespace L2
open PySem PySem.Spec PyProof.Rows
variable {H:Hp} {R:It->Hp->Prop} {es:List Expr} {n:Nat} {pos:Pos} {ta:TA} {te:TE} {σ:St}
def qfi (K:yg) (n:Nat) (t:TGs):TG:=fun v σ H Q=>∃ a xs,v=.ref a/\(SqT K H a xs\/SqL K H a xs)/\xs.length=n/\t xs σ H Q
theorem vAsgU {K:yg} {a:TGs} {D:Ends} (h:te σ H fun x b=>qfi K n a x σ b D.nx):qft te (qfi K n a) D σ H:=h
section
variable {X:Cx} {K:yg} {pos p:Pos} {x:Str}
theorem pg_tupU {k:Nat} {t:TGs} (hc:X.calm=true) (h:PGs X es t)
  (g:(assignEach es X.env).length=n:=by rfl) (d:(assignEach es X.env).findIdx? (·.1)=none:=by rfl):PG X (.Tuple es k pos) (qfi X.K n t):=by
 intro c s σ H v u Q I r hw;obtain ⟨a,xs,f,hq,hl,hw⟩:=hw;rcases hq with hq | hq
 ·exact qcb hc h g d c s σ H v u Q I r ⟨a,xs,f,hq,hl,hw⟩
 ·subst f;cases r;obtain ⟨p,i,l,hz⟩:=I.list hq;refine HT.assign_Tuple_list (I.ok.hd hc) l.isList (by simp [g,<- hl,i.length]) d fun h' m=>?_;have j:Inv X c σ H { s with heap:=h' }:=I.kept (t':=s.toks) fun b o e=>m b o (yI (yH e)) e;exact h c _ σ H xs _ Q j (by simpa using i) hw
end
section
variable {X:Cx} {K:yg} {e lo st:Expr} {te:TE} {tl ts:TO} {p2 pos:Pos}
def qgE (K:yg) (te:TE):TI:=fun σ H R=>te σ H fun v b=>∃ a xs,v=.ref a/\SqL K b a xs/\R (Itl K a) b
theorem qfj {K:yg} (h:te σ H fun v b=>∃ a xs,v=.ref a/\SqL K b a xs/\R (Itl K a) b):qgE K te σ H R:=h
theorem qea {u:Expr} (j:X.K=K) (m:PE X e te):PI X u e (qgE K te):=by
 subst j;intro c s σ H R I h;refine thn (m c s σ H _ I h) fun v d ⟨y,g,f,t,a,xs,i,n,q⟩=>?_;subst i;cases t
 have fp:∀ b∈[d.heap.objs.size],qcJ X c g b:=fun b l=>by
  have e:b=d.heap.objs.size:=by simpa using l
  subst e;exact f.fpOk (yh _) (f.hok.fresh (yh _))
 obtain ⟨r,w,p,hz⟩:=f.list n;exact XU p.isList ⟨d.heap.objs.size,[d.heap.objs.size],_,_,g,rfl,f.kept (t':=d.toks) fun b o e=>yu _ e,qcc a _,⟨_,yV _ rfl,rfl,rfl⟩,fp,q⟩
end
noncomputable def Itz (K:yg) (a b:Addr):It:=
 ⟨fun i H=>∃ xs ys x y,SqL K H a xs/\SqL K H b ys/\xs[i]?=some x/\ys[i]?=some y,fun i H v H'=>∃ t x y,v=.ref t/\H t=none/\H'=upd H t (.tup [x,y])/\(∀ xs,SqL K H a xs->xs[i]?=some x)/\∀ ys,SqL K H b ys->ys[i]?=some y,fun i H=>∃ xs ys,SqL K H a xs/\SqL K H b ys/\(xs.length<=i\/ys.length<=i)⟩
def tnZ (z TI TO c d a b:Addr) (i:Nat) (h:Heap):Prop:=IsZip h z TI TO .none/\IsPair h TI (.ref c) (.ref d)/\(∃ u v,IsPair h TO u v)/\h.IsListIter c a i/\h.IsListIter d b i
theorem turn_zip {P:Program} {w:World} {K:yg} {x1} (a b z TI TO n q:Addr) (D:ZipApart z TI TO n q a b):Turn P w K (.Tuple es x1 pos) (Itz K a b) [z,TI,TO,n,q] z (tnZ z TI TO n q a b) where
 mem:=by simp
 obj:=fun i h st c hc=>by
  obtain ⟨hz,d,⟨u,v,g⟩,⟨o1,e1,c1,d1⟩,⟨o2,e2,c2,d2⟩⟩:=st;simp only [yv,yG,Yl] at hc;rcases hc with rfl | rfl | rfl | rfl | rfl
  ·exact ⟨_,hz,fun v z=>by have F:Data.fields _=Data.cell v:=z;cases F⟩
  ·exact ⟨_,d,fun v z=>by have F:Data.seq _ _=Data.cell v:=z;cases F⟩
  ·exact ⟨_,g,fun v z=>by have F:Data.seq _ _=Data.cell v:=z;cases F⟩
  ·exact ⟨o1,e1,fun v z=>by rw [d1] at z;cases z⟩
  ·exact ⟨o2,e2,fun v z=>by rw [d2] at z;cases z⟩
 keep:=fun i h h' st k=>by
  obtain ⟨hz,d,⟨u,v,g⟩,h1,t⟩:=st;exact ⟨k z (by simp) _ hz,k TI (by simp) _ d,⟨u,v,k TO (by simp) _ g⟩,h1.at fun o x=>k n (by simp) o x,t.at fun o x=>k q (by simp) o x⟩
 item:=by
  intro X S hw R hc i l s σ H E I T st U;subst S hw R;obtain ⟨hz,d,⟨u,v,g⟩,h1,t⟩:=st;obtain ⟨xs,ys,x,y,J,m,hx,hy⟩:=U;obtain ⟨ad,rv,p,_⟩:=I.list J;obtain ⟨C,r,p2,_⟩:=I.list m;obtain ⟨L,W,ag⟩:=rv.get hx;obtain ⟨M,Y,ah⟩:=r.get hy;refine wpAny_pyNext_zip_item D hz d g h1 t p.isList p2.isList (x:=L) (y:=M) (by simpa using W) (by simpa using Y) fun h' ab A N O hT hsz G=>?_;refine ⟨_,rfl,wpAny_letOwnedTupleGo_zip ab fun h3 ac j=>?_⟩;have fre:H s.heap.objs.size=none:=I.hok.fresh (yh _);have lt:∀ {c o},s.heap.get? c=some o->s.heap.objs.size≠c:=fun e=>Yj (yH e);have nz:=lt hz;have ae:=lt d;have af:=lt g;have n1:s.heap.objs.size≠n:=by obtain ⟨_,e,_⟩:=h1;exact lt e
  have n2:s.heap.objs.size≠q:=by obtain ⟨_,e,_⟩:=t;exact lt e
  have I1:Inv X l σ (upd H s.heap.objs.size (.tup [x,y])) { s with heap:=s.heap.push { cls:=.type "tuple",data:=.seq #[L,M] },toks:=s.toks }:=
   I.laid (fun b u e=>yu _ e) (yh _) ⟨by show 2<=sizeLine;decide,[L,M],.cons ag (.cons ah .nil),⟨_,yV _ rfl,rfl,_,rfl⟩⟩
  have B:∀ c∈[z,TI,TO,n,q],qcJ X l (upd H s.heap.objs.size (.tup [x,y])) c:=fun c hc=>by
   obtain ⟨f0,f⟩:=T c hc;refine ⟨?_,f⟩;rw [qf]
   ·exact f0
   ·simp only [yv,yG,Yl] at hc;rcases hc with rfl | rfl | rfl | rfl | rfl
    ·exact nz.symm
    ·exact ae.symm
    ·exact af.symm
    ·exact n1.symm
    ·exact n2.symm
  have kk:∀ c o,c∉[z,TI,TO,n,q]->(s.heap.push { cls:=.type "tuple",data:=.seq #[L,M] }).get? c=some o->h3.get? c=some o:=fun c o hc e=>by
   simp only [yv,yG,Yl,Kk] at hc;refine j.extBut _ _ hc.1 ?_;by_cases hz:c=s.heap.objs.size
   ·subst hz;rw [yV _ rfl] at e;cases e;exact hT
   ·exact G c o hc.1 hc.2.2.1 hc.2.2.2.1 hc.2.2.2.2 (push_some e hz)
  have I2:=I1.turnedL (h':=h3) (t':=s.toks) (fp:=[z,TI,TO,n,q]) kk B;refine ⟨.ref s.heap.objs.size,_,I2,rfl,⟨_,x,y,rfl,fre,rfl,fun ai Z=>by rw [I.list_inj Z J];exact hx,fun ys' aa=>by rw [I.list_inj aa m];exact hy⟩,⟨ac,?_,⟨_,_,j.extBut _ _ D.TOz A⟩,N.extBut j.extBut D.i1z,O.extBut j.extBut D.i2z⟩,fun c hc=>(B c hc).1⟩;exact j.extBut _ _ D.TIz (G _ _ D.TIz D.TITO D.TIi1 D.TIi2 d)
 done:=by
  intro X S hw R hc i l s σ H E I T st U;subst S hw R;obtain ⟨hz,d,⟨u,v,g⟩,h1,t⟩:=st;obtain ⟨xs,ys,J,m,he⟩:=U;obtain ⟨ad,rv,p,_⟩:=I.list J;obtain ⟨C,r,p2,_⟩:=I.list m;have l1:=rv.length;have l2:=r.length;refine wpAny_pyNext_zip_end (I.ok.hd hc) D hz d g h1 t p.isList p2.isList (he.imp (fun e=>xZ (by simp;omega)) fun e=>xZ (by simp;omega)) fun h' G=>⟨rfl,I.turnedL (t':=s.toks) (fp:=[z,TI,TO,n,q]) (fun c o hc e=>?_) T⟩;simp only [yv,yG,Yl,Kk] at hc;exact G c o hc.1 hc.2.2.1 hc.2.2.2.1 hc.2.2.2.2 e
 self:=fun _ _ _ _ _ st h=>kS st.1 h
theorem qdl:bootBuiltins "zip"=some (.type "zip"):=by decide +kernel
def qgF (K:yg) (ta:TA):TI:=fun σ H R=>ta σ H fun vs c=>∃ a b xs ys,vs=[.ref a,.ref b]/\SqL K c a xs/\SqL K c b ys/\R (Itz K a b) c
theorem vZip {K:yg} {c:TA} (h:c σ H fun vs d=>∃ a b xs ys,vs=[.ref a,.ref b]/\SqL K d a xs/\SqL K d b ys/\R (Itz K a b) d):qgF K c σ H R:=h
theorem pi_zip {X:Cx} {K:yg} {a b:Expr} {x1} {M p:Pos} (y:X.K=K) (A:Gl X "zip") (C:X.mg "zip"=none) (z:PA X [a,b] ta) (E:starEach [a,b] X.env=[(false,eval a X.env),(false,eval b X.env)]:=by rfl) (g:starEach [b] X.env=[(false,eval b X.env)]:=by rfl):PI X (.Tuple es x1 M) (.Call (.Name "zip" p) [a,b] [] pos) (qgF K ta):=by
 subst y;intro i s σ H R I h;refine Call_ (zI I A C qdl (Yu (thn (z pos i s σ H _ I h) fun us f ⟨vs,x,d,J,G⟩=>?_) (by rw [E,g]) (by rw [g];rfl)));obtain ⟨a,b,xs,ys,e,D,t,q⟩:=G;subst e
 cases J with
 | cons r rr =>
  cases rr with
  | cons r2 rr =>
   cases rr;cases r;cases r2;obtain ⟨F,N,pl,_⟩:=d.list D;obtain ⟨w,L,j,_⟩:=d.list t;have u:a<f.heap.objs.size:=by obtain ⟨_,e,_⟩:=pl.isList;exact yH e
   have v:b<f.heap.objs.size:=by obtain ⟨_,e,_⟩:=j.isList;exact yH e
   refine call_zip_2 pl.isList j.isList fun h' hz l m n o hsz B=>kS hz ?_;refine ⟨_,[f.heap.objs.size+4,f.heap.objs.size+2,f.heap.objs.size+3,f.heap.objs.size,f.heap.objs.size+1],_,_,x,rfl,d.kept (t':=f.toks) B,turn_zip a b _ _ _ _ _ (PySem.W.ktu_apart _ _ _ u v),⟨hz,l,⟨_,_,m⟩,n,o⟩,fun c hc=>?_,q⟩;simp only [yv,yG,Yl] at hc;rcases hc with rfl | rfl | rfl | rfl | rfl
   ·exact d.fpOk (xS _ _) (d.hok.fresh (xS _ _))
   ·exact d.fpOk (xS _ _) (d.hok.fresh (xS _ _))
   ·exact d.fpOk (xS _ _) (d.hok.fresh (xS _ _))
   ·exact d.fpOk (yh _) (d.hok.fresh (yh _))
   ·exact d.fpOk (Xo _) (d.hok.fresh (Xo _))
def qgG (K:yg) (te:TE) (d:TO):TE:=fun σ H Q=>te σ H fun x c=>d σ c fun o b=>o=some (-1)/\∃ a xs,x=.ref a/\SqL K b a xs/\∀ p,b p=none->Q (.ref p) (upd b p (.lst xs.reverse))
theorem qgH {K:yg} {c:TO} {Q:VK} (h:te σ H fun x d=>c σ d fun o b=>o=some (-1)/\∃ a xs,x=.ref a/\SqL K b a xs/\∀ p,b p=none->Q (.ref p) (upd b p (.lst xs.reverse))):qgG K te c σ H Q:=h
theorem qdm:∀ {xs:List V} {us:List Value},Vals xs us->Vals xs.reverse us.reverse
 | _,_,.nil=>.nil
 | _,_,.cons r t=>by
  rw [List.reverse_cons,List.reverse_cons];exact (qdm t).append (.cons r .nil)
section
variable {X:Cx} {K:yg} {e st:Expr} {te:TE} {ts:TO} {p2 pos:Pos}
theorem qe1 (u:X.K=K) (y:PE X e te) (z:PO X (some st) ts):PE X (.Subscript e (.Slice none none (some st) p2) pos) (qgG K te ts):=by
 subst u;intro c s σ H Q I h;refine Subscript_ (thn (y c s σ H _ I h) fun v G ⟨x,l,n,F,E⟩=>?_);refine wpAny_Slice ?_;rw [evalPart_none];refine yw ?_;refine yw ?_;refine thn (z c G σ l _ n E) fun j d ⟨o,m,p,pt,t,a,xs,ex,B,q⟩=>?_;subst t ex;cases F;have f:Inv X c σ m { d with heap:=d.heap.push { cls:=.type "slice",data:=.fields #[.none,.none,j] } }:=p.kept (t':=d.toks) fun b D q=>yu _ q;obtain ⟨C,r,i,hz⟩:=f.list B;have g:=r.length;show wpAny (model X.prog X.w) X.A (subscriptTail e (.Slice none none (some st) p2) (.ref a) (.ref d.heap.objs.size)) (EP X c σ Q) X.xe { d with heap:=d.heap.push { cls:=.type "slice",data:=.fields #[.none,.none,j] } };refine tail_any (ops:=[.ref a,.ref d.heap.objs.size]) i.isList.typeIs kG.lookup (wpAny_getItem_list_slice i.isList (Heap.IsSliceOf.new ..) .none .none pt (by decide) ?_ (by rw [yx]<;>omega)) (by with_unfolding_all rfl);rw [PySem.W.krv_pick];refine ⟨.ref _,_,f.laid (t':=d.toks) (o:=.lst xs.reverse) (fun b D q=>yu _ q) (yh _) ?_,rfl,q _ (f.hok.fresh (yh _))⟩;exact ⟨by rw [YD];exact hz,_,0,qdm r,yV _ rfl⟩
end
def tLR (ta:TA):TE:=fun σ H Q=>ta σ H fun vs a=>∃ n:Nat,vs=[.int n]/\n<=1000/\∀ l,a l=none->Q (.ref l) (upd a l (.lst ((List.range n).map fun i=>V.int ((i:Nat):Int))))
theorem vLR {Q:VK} (h:ta σ H fun vs a=>∃ n:Nat,vs=[.int n]/\n<=1000/\∀ l,a l=none->Q (.ref l) (upd a l (.lst ((List.range n).map fun i=>V.int ((i:Nat):Int))))):tLR ta σ H Q:=h
section
variable {X:Cx} {a:Expr} {ta:TA} {p p2 pos pos2:Pos}
theorem pe_lrng (hc:X.calm=true) (G:Gl X "list") (g:Gl X "range") (L:X.mg "list"=none) (l:X.mg "range"=none) (F:PA X [a] ta) (N:starEach [a] X.env=[(false,eval a X.env)]:=by rfl)
  (z:starEach [.Call (.Name "range" p2) [a] [] pos2] X.env=[(false,eval (.Call (.Name "range" p2) [a] [] pos2) X.env)]:=by rfl):PE X (.Call (.Name "list" p) [.Call (.Name "range" p2) [a] [] pos2] [] pos) (tLR ta):=by
 intro d s σ H Q I h;refine Call_ (zI I G L Xj (Yu (T:="list") ?_ z rfl));rw [z];show wpAny _ _ (spliced ((false,eval (.Call (.Name "range" p2) [a] [] pos2) X.env)::[])) _ _ s;refine XD ?_;refine Call_ (zI I g l boot_range (Yu (thn (F pos2 d s σ H _ I h) fun us f ⟨vs,A,v,R,P⟩=>?_) N rfl));obtain ⟨n,e,M,q⟩:=P;subst e
 cases R with
 | cons r rr =>
  cases rr;obtain ⟨t,rfl⟩:=r;refine call_range_1 (XM ?_);refine call_list_range (n:=n) (v.ok.hd hc) (IsRange.new ..) (small_one (by omega) (by omega) (by omega) (by omega)) (by rw [rangeSize_one];split<;>omega) (by omega) fun h' tk c B K E x=>?_;have C:c.toList.length=n:=by rw [xo];exact x.1
  have hv:Vals ((List.range n).map fun i=>V.int ((i:Nat):Int)) c.toList:=by
   refine zn (by rw [ya,YS,C]) fun j y u h1 D=>?_;have J:j<n:=by have:=(yc.mp h1).1;rwa [ya,YS] at this
   rw [yd,kz J] at h1;cases h1;obtain ⟨t',m⟩:=x.2 j u (by rw [<- xz];exact D);exact ⟨t',by rw [m];congr 1;omega⟩
  have w:Inv X d σ A { f with heap:=f.heap.push { cls:=.type "range",data:=.fields #[.int 0 f.toks,.int n t,.int 1 (f.toks+1)] },toks:=f.toks+1+1 }:=v.kept fun b o e=>yu _ e;refine ⟨.ref _,_,w.laid (t':=tk) (o:=.lst ((List.range n).map fun i=>V.int ((i:Nat):Int))) (fun b O q=>K b O q) (yh _) ?_,rfl,q _ (w.hok.fresh (yh _))⟩;refine ⟨by rw [ya,YS];exact yi M (by decide),c.toList,B,hv,?_⟩;rw [Array.toArray_toList];exact E
end
end L2
namespace L2
structure Sb (V:Nat->Prop):Prop where
 z:V 0
 a:∀ x y,V x->V y->V (x ^^^ y)
def jn (V:Nat->Prop) (x:Nat):Nat->Prop:=fun y=>V y\/V (y ^^^ x)
def Spn:List Nat->Nat->Prop
 | []=>fun y=>y=0
 | a::L=>jn (Spn L) a
open Classical in
def Bnd (b n v:Nat):Prop:=∀ i,v.testBit i=true->b<=i/\i<b+n
open Classical in
noncomputable def swp:Nat->Nat->List Nat->Nat
 | 0,_,_=>0
 | n+1,b,L=>match L.filter (fun v=>v.testBit b) with
  | []=>swp n (b+1) L
  | p::t=>1+swp n (b+1) (L.filter (fun v=>!v.testBit b)++t.map fun v=>v ^^^ p)
open Classical in
noncomputable def rk (L:List Nat):Nat:=swp 30 0 L
open Classical in
noncomputable def les:Nat×Nat->List (Nat×Nat)->Nat×Nat
 | s,[]=>s
 | s,o::os=>if s.1 ^^^ o.1<s.1 then les (s.1 ^^^ o.1,s.2 ^^^ o.2) os else les s os
structure Ech (os:List (Nat×Nat)):Prop where
 nz:∀ o∈os,o.1≠0
 pw:os.Pairwise fun a b=>b.1.testBit a.1.log2=false
noncomputable def csm:List Nat->Nat->Nat->Nat
 | [],_,_=>0
 | a::L,k,c=>(if c.testBit k then a else 0) ^^^ csm L (k+1) c
noncomputable def stp (st:List (Nat×Nat)) (n v:Nat):List (Nat×Nat):=if (les (v,1 <<< n) st).1=0 then st else st++[les (v,1 <<< n) st]
structure Stp (L:List Nat) (n:Nat) (st:List (Nat×Nat)):Prop where
 ech:Ech st
 sum:∀ o∈st,csm L 0 o.2=o.1
 low:∀ o∈st,o.2<2 ^ n
 lt:∀ o∈st,o.1<2 ^ 30
 spn:∀ v,Spn (st.map (·.1)) v↔Spn (L.take n) v
 free:st.map (fun o=>o.2.log2)=(List.range n).filter fun i=>decide (rk (L.take i)<rk (L.take (i+1)))
 len:st.length<=n
end L2
namespace L2
open PySem PySem.Spec PyProof.Rows
variable {i j n:Nat}
section
variable {X:Cx}
end
def Fl:V->Prop
 | .non=>True
 | .bl _=>True
 | .int i=>-999999999999<=i/\i<=999999999999
 | _=>False
noncomputable def fD:V->PyData
 | .non=>.none
 | .bl b=>.bool b
 | .int i=>.int i
 | .str x=>.str x
 | _=>.none
def FlS (xs:List V):Prop:=xs.length<=1000/\∀ x∈xs,Fl x
def ShwT (H:Hp) (v:V) (t:Str):Prop:=match v with
 | .non=>t="None"
 | .bl b=>t=if b then Str.ofString "True" else Str.ofString "False"
 | .int i=>i.natAbs.log2<1920/\t=toString i
 | .str x=>(reprText x).length<=sizeLine/\t=reprText x
 | .ref p=>(∃ xs,H p=some (.lst xs)/\FlS xs/\t=(PyData.list (xs.map fD)).shown)\/∃ xs,H p=some (.tup xs)/\FlS xs/\t=(PyData.tuple (xs.map fD)).shown
 | _=>False
section
variable {X:Cx} {K:yg}
end
theorem gk_two {b:Nat} {K:yg} (o:i<b:=by decide) (p:j<b:=by decide):qdC b (qgk K n (qfa (qbR i) (qfa (qbR j) qgj))):=by
 intro x t H Q ⟨a,xs,e,h,g,v,r,c,m,l,d,q⟩;obtain ⟨f,q⟩:=q;refine ⟨a,xs,e,h,g,v,r,c,m,l,d,f,q,?_,fun k s=>?_⟩
 ·rw [xD,xD]
 ·rw [xl (by omega),xl (by omega)]
section
variable {K:yg} {a:Addr} {xs:List V} {g:TG} {tc:TT} {te:TE} {σ':St} {H1:Hp} {Q:V->Hp->Prop}
end
theorem bit_nat (m j:Nat):decide (Builtin.bitAnd ((m:Int) / 2 ^ (j:Int).toNat) 1=1)=m.testBit j:=by
 rw [XV,Nat.testBit_eq_decide_div_mod_eq];rw [yY]
 have e:((m:Int) / 2 ^ j) % 2=((m / 2 ^ j % 2:Nat):Int):=by
  rw [Int.natCast_emod,Int.natCast_ediv,Xe];rfl
 rw [e];by_cases h:m / 2 ^ j % 2=1
 ·rw [h];rfl
 ·rw [yl h,yl (by omega)]
theorem bit0_nat (m j:Nat):decide (Builtin.bitAnd ((m:Int) / 2 ^ (j:Int).toNat) 1=0)=!m.testBit j:=by
 rw [<- bit_nat m j,XV];have h:((m:Int) / 2 ^ (j:Int).toNat) % 2=0\/((m:Int) / 2 ^ (j:Int).toNat) % 2=1:=by omega
 rcases h with h | h<;>rw [h]<;>rfl
section
variable {K:yg} {a b:Addr} {xs ys:List V} {g:TG} {tc:TT} {te:TE} {σ':St} {H1:Hp} {Q:V->Hp->Prop}
theorem comp_zip (E:ys.length<=xs.length) (d:Nat->List V->Hp->Prop) (s:d 0 [] H1) (hl:∀ i c H,i<=ys.length->d i c H->SqL K H a xs/\SqL K H b ys)
  (A:∀ i x y t c H,xs[i]?=some x->ys[i]?=some y->H t=none->d i c H->g (.ref t) σ' (upd H t (.tup [x,y])) fun h o=>tc h o fun b n=>if b=true then te h n fun v r=>c.length<sizeLine/\d (i+1) (c++[v]) r else d (i+1) c n)
  (w:∀ c H,d ys.length c H->c.length<=sizeLine/\∀ p,H p=none->Q (.ref p) (upd H p (.lst c))):qd1 (Itz K a b) g tc te σ' H1 Q:=by
 refine ⟨fun i m c H=>m=ys.length-i/\i<=ys.length/\d i c H,⟨ys.length,by simp,YI _,s⟩,?_⟩;rintro i m c H ⟨rfl,z,p⟩;obtain ⟨q,l⟩:=hl i c H z p;by_cases f:i<ys.length
 ·have j:i<xs.length:=by omega
  refine .inr ⟨⟨xs,ys,xs[i],ys[i],q,l,by simp [j],by simp [f]⟩,d (i+1),fun ys' H' C=>⟨ys.length-(i+1),by omega,rfl,f,C⟩,fun x H' y=>?_⟩;obtain ⟨t,v,u,rfl,B,rfl,y,D⟩:=y;exact A i v u t c _ (y xs q) (D ys l) B p
 ·have e:i=ys.length:=by omega
  subst e;exact .inl ⟨⟨xs,ys,q,l,.inr (yh _)⟩,w c H p⟩
end
section
variable {X:Cx} {K:yg}
end
section
variable {X:Cx} {K:yg} {e st:Expr} {te:TE} {ts:TO} {p2 pos:Pos}
end
mutual
inductive Dat (H:Hp):V->PyData->Prop
 | non:Dat H .non .none
 | bl (b:Bool):Dat H (.bl b) (.bool b)
 | int (i:Int):Dat H (.int i) (.int i)
 | str (x:Str):Dat H (.str x) (.str x)
 | lst {a:Addr} {xs:List V} {ds:List PyData}:H a=some (.lst xs)->DatS H xs ds->Dat H (.ref a) (.list ds)
 | tup {a:Addr} {xs:List V} {ds:List PyData}:H a=some (.tup xs)->DatS H xs ds->Dat H (.ref a) (.tuple ds)
 | dnil {a:Addr}:H a=some (.dK [])->Dat H (.ref a) (.dict [])
inductive DatS (H:Hp):List V->List PyData->Prop
 | nil:DatS H [] []
 | cons {v:V} {vs:List V} {d:PyData} {ds:List PyData}:Dat H v d->DatS H vs ds->DatS H (v::vs) (d::ds)
end
theorem Dat.same {H H':Hp} (s:Same H H') {v:V} {d:PyData} (h:Dat H v d):Dat H' v d:=
 Dat.rec (H:=H) (motive_1:=fun v d _=>Dat H' v d) (motive_2:=fun vs c _=>DatS H' vs c) .non .bl .int .str (fun e _ r=>.lst (s _ _ e) r) (fun e _ r=>.tup (s _ _ e) r) (fun e=>.dnil (s _ _ e)) .nil (fun _ _ a b=>.cons a b) h
theorem DatS.strs {H:Hp}:∀ (ks:List Str),DatS H (ks.map V.str) (ks.map PyData.str)
 | []=>.nil
 | k::ks=>.cons (.str k) (DatS.strs ks)
structure Shw (d:PyData) (n m:Nat):Prop where
 s:d.showable=true
 l:d.leavesShort 13=true
 b:d.bulk<=n
 p:d.depth<=m
structure ShwS (ds:List PyData) (n m:Nat):Prop where
 s:PyData.showableAll ds=true
 l:PyData.leavesShortAll 13 ds=true
 b:PyData.bulkAll ds<=n
 p:PyData.depthAll ds<=m
theorem ShwS.nil {m:Nat}:ShwS [] 0 m:=⟨rfl,rfl,yh _,YI _⟩
theorem ShwS.cons {d:PyData} {a:List PyData} {n c m:Nat} (h:Shw d n m) (r:ShwS a c m):ShwS (d::a) (n+1+c) m:=
  ⟨by show (PyData.showable d&&PyData.showableAll a)=true;rw [h.s,r.s];rfl,by show (PyData.leavesShort 13 d&&PyData.leavesShortAll 13 a)=true;rw [h.l,r.l];rfl,
   by have:=h.b;have:=r.b;show PyData.bulk d+1+PyData.bulkAll a<=_;omega,
   by have:=h.p;have:=r.p;simp only [PyData.depthAll];omega⟩
theorem ShwS.mono {a:List PyData} {n d m c:Nat} (h:ShwS a n m) (f:n<=d) (e:m<=c):ShwS a d c:=⟨h.s,h.l,yi h.b f,yi h.p e⟩
theorem Shw.mono {d:PyData} {n c m a:Nat} (h:Shw d n m) (f:n<=c) (e:m<=a):Shw d c a:=⟨h.s,h.l,yi h.b f,yi h.p e⟩
theorem ShwS.list {a:List PyData} {n m:Nat} (h:ShwS a n m):Shw (.list a) n (m+1):=
 ⟨by simpa only [PyData.showable] using h.s,by simpa only [PyData.leavesShort] using h.l,by simpa only [PyData.bulk] using h.b,by have:=h.p;simp only [PyData.depth];omega⟩
theorem ShwS.tuple {a:List PyData} {n m:Nat} (h:ShwS a n m):Shw (.tuple a) n (m+1):=
 ⟨by simpa only [PyData.showable] using h.s,by simpa only [PyData.leavesShort] using h.l,by simpa only [PyData.bulk] using h.b,by have:=h.p;simp only [PyData.depth];omega⟩
theorem Shw.non {m:Nat}:Shw .none 0 m:=⟨rfl,rfl,yh _,YI _⟩
theorem Shw.bl {b:Bool} {m:Nat}:Shw (.bool b) 0 m:=⟨rfl,rfl,yh _,YI _⟩
theorem Shw.int {i:Int} {m:Nat} (h1:-999999999999<=i) (a:i<=999999999999):Shw (.int i) 0 m:=
 ⟨yB (log2_small (yj (show i.natAbs<2 ^ 40 by omega) (kh (by decide) (by decide)))),yB (PyData.shown_int_le2 h1 a),yh _,YI _⟩
theorem Shw.str {x:Str} {m:Nat} (h:∀ c∈x.cps.toList,c<16 ^ 8):Shw (.str x) x.length m:=
 ⟨rfl,by simpa only [PyData.leavesShort,Yz,XW] using h,yh _,YI _⟩
theorem Shw.dnil {m:Nat}:Shw (.dict []) 0 (m+1):=⟨rfl,rfl,yh _,by simp [PyData.depth,PyData.depthKv]⟩
section
variable {X:Cx} {K:yg} {pins:List (Addr×Obj)} {σ:List (Option V)} {H:Hp} {s:Shared}
theorem Dat.reads (I:Inv X pins σ H s) (L:H sysModules=none) {v:V} {d:PyData} (h:Dat H v d):∀ u,RelV v u->∃ as,Reads s.heap u d as/\sysModules∉as:=
 Dat.rec (H:=H) (motive_1:=fun v d _=>∀ u,RelV v u->∃ as,Reads s.heap u d as/\sysModules∉as) (motive_2:=fun vs l _=>∀ us,Vals vs us->∃ as,ReadsAll s.heap us l as/\sysModules∉as)
  (fun u r=>⟨[],by cases r;exact .none,nofun⟩) (fun b u r=>⟨[],by cases r;exact .bool b,nofun⟩) (fun i u r=>⟨[],by obtain ⟨t,rfl⟩:=r;exact .int i t,nofun⟩) (fun x u r=>⟨[],by obtain ⟨t,rfl⟩:=r;exact .str x t,nofun⟩)
  (fun {a xs l} e _ A u r=>by
   cases r;obtain ⟨z,c,n,E,f⟩:=I.hok a _ e;obtain ⟨as,j,w⟩:=A c E;refine ⟨a::as,.list f rfl rfl (by rw [List.toList_toArray];exact j),fun g=>?_⟩;rcases yv.mp g with z | z
   ·rw [z,e] at L;cases L
   ·exact w z)
  (fun {a xs l} e _ A u r=>by
   cases r;obtain ⟨c,E,⟨o,m,f,n,p⟩,_⟩:=I.tuple (SqT.of e);obtain ⟨as,j,w⟩:=A c E;exact ⟨as,.tuple m f p (by rw [List.toList_toArray];exact j),w⟩)
  (fun {a} e u r=>by
   cases r;obtain ⟨z,J,vs,D,o,G,ep,m,f,p,P,F,R⟩:=qdZ I.hok e;cases D;have K:G.toList=[]:=by cases q:G.toList with | nil=>rfl | cons y ys=>rw [q] at F;cases F
   refine ⟨a::[]++[],.dict m f.1 p (by rw [K];exact .nil) (by rw [K];exact .nil),fun g=>?_⟩;rcases yv.mp g with z | z
   ·rw [<- z] at J;simp at J
   ·cases z)
  (fun us r=>by cases r;exact ⟨[],.nil,nofun⟩)
  (fun _ _ B C us r=>by
   cases r with
   | cons r rr =>
    obtain ⟨as,j,M⟩:=B _ r;obtain ⟨bs,O,N⟩:=C _ rr;exact ⟨as++bs,.cons j O,fun g=>(yD.mp g).elim M N⟩) h
def rReprD:List V->Hp->VK->Prop:=fun xs H Q=>∃ v d,xs=[v]/\Dat H v d/\Shw d (2 ^ 20) 60/\Q (.str d.shown) H
theorem qeb (n:X.K=K) (D:X.A.units+100<cLine) (f:X.A.guards=some []) (y:∃ o,K.lookup sysModules=some o):zm X (.builtin "repr") rReprD:=by
 subst n;intro pins s σ H xs us Q I r h;obtain ⟨v,d,rfl,m,hw,q⟩:=h;obtain ⟨u,rfl,a⟩:=qaO r;obtain ⟨o,w⟩:=y;have t:H sysModules=none:=(I.bs _ _ (I.mod.kin _ _ w)).2;have hsz:d.shown.length<=sizeLine:=PyData.shown_fits_bulk (B:=13) (by decide) (by decide) hw.l hw.b;obtain ⟨as,j,g⟩:=m.reads I t u a;have C:=hw.p
 cases m with
 | non=>cases a;exact P.repr_of_none ⟨.str _,H,I.tok _,⟨_,rfl⟩,q⟩
 | bl b=>cases a;exact P.repr_of_bool ⟨.str _,H,I.tok _,⟨_,rfl⟩,q⟩
 | int i=>obtain ⟨tk,rfl⟩:=a;exact P.repr_of_int (yk (by simpa only [PyData.showable] using hw.s)) ⟨.str _,H,I.tok _,⟨_,rfl⟩,q⟩
 | str x=>obtain ⟨tk,rfl⟩:=a;exact P.repr_of_str (hsz:=hsz) ⟨.str _,H,I.tok _,⟨_,rfl⟩,q⟩
 | lst e _=>cases a;exact repr_of_reads' j hw.s (fun _=>g) f (by omega) (fun _ _ z=>z) (fun h' u tk c=>⟨.str _,H,I.kept (t':=tk) c,⟨_,rfl⟩,q⟩) hsz
 | tup e _=>cases a;exact repr_of_reads' j hw.s (fun _=>g) f (by omega) (fun _ _ z=>z) (fun h' u tk c=>⟨.str _,H,I.kept (t':=tk) c,⟨_,rfl⟩,q⟩) hsz
 | dnil e=>cases a;exact repr_of_reads' j hw.s (fun _=>g) f (by omega) (fun _ _ z=>z) (fun h' u tk c=>⟨.str _,H,I.kept (t':=tk) c,⟨_,rfl⟩,q⟩) hsz
end
theorem qdn {f:Str×NameKind->Str×NameKind} (b:∀ y,(f y).1=y.1) (c:∀ y,(f y).2=y.2\/(f y).2=.cell):∀ {ns:List (Str×NameKind)} {x:Str},(ns.lookup x=some .cell\/ns.lookup x=some .free)->((ns.map f).lookup x=some .cell\/(ns.map f).lookup x=some .free)
 | [],x,h=>by simp at h
 | y::r,x,h=>by
  have e:((y::r).map f)=((f y).1,(f y).2)::r.map f:=rfl;have d:y::r=(y.1,y.2)::r:=rfl;rw [d,xi] at h;rw [e,xi,b y]
  cases a:x==y.1 with
  | false=>rw [a] at h;exact qdn b c h
  | true =>
   rw [a] at h;rcases c y with z | z
   ·rw [z];exact h
   ·rw [z];exact .inl rfl
theorem compB_re {sc scope:Scope} {env:Env} (h:qcr sc scope=true):qcr (relabel sc env) scope=true:=by
 unfold qcr at h ⊢;rw [yX] at h ⊢;refine ⟨h.1,Yz.mpr fun y b=>?_⟩;have:=Yz.mp h.2 y b
 cases a:y.2 with
 | free =>
  rw [a] at this;simp only [yX,XA,Yk] at this ⊢;refine ⟨?_,this.2⟩;exact qdn (fun y=>by dsimp only;split<;>rfl) (fun y=>by dsimp only;split<;>simp) this.1
 | _=>rw [a] at this;first | done | exact this | cases this
section
variable {X:Cx} {tg elt iter:Expr} {ifs:List Expr} {scope sc1:Scope} {pos:Pos} {N N1:List Str} {nl:Nat} {ixs:List Nat} {wi:TI} {g:TG} {tc:TT} {te:TE} {C1:Addr} {s1:Shared} {H1:Hp} {ex1:List Addr}
theorem pe_compIn (N:List Str) (nl:Nat) (ixs:List Nat) (hc:X.calm=true) (d:qcr sc1 scope=true) (f:N.length=nl+ixs.length) (a:qf0 nl ixs N N1 scope.names=true)
  (j:PI (X.comp N1 sc1 C1 s1 H1 ex1) tg iter wi) (i:∀ C c b ex,PG ((X.comp N1 sc1 C1 s1 H1 ex1).comp N scope C c b ex) tg g) (e:qdC nl g) (m:∀ C c b ex,qfu ((X.comp N1 sc1 C1 s1 H1 ex1).comp N scope C c b ex) ifs tc) (h:∀ C c b ex,PE ((X.comp N1 sc1 C1 s1 H1 ex1).comp N scope C c b ex) elt te)
  (l:∀ x,foldedSetIterable iter (X.comp N1 sc1 C1 s1 H1 ex1).env x=pure x:=by intro _;rfl):PE (X.comp N1 sc1 C1 s1 H1 ex1) (.ListComp elt [⟨tg,iter,ifs,0⟩] scope pos) (qeE wi g tc te nl ixs):=
 ji (sc:=relabel sc1 X.env) (XN:=N1) N nl ixs rfl rfl hc (compB_re d) f a j i e m h l
end
noncomputable def qdG (a:List (Key×V)):List (Key×V)->Bool
 | []=>true
 | (k,v)::r=>match jG a k with
  | none=>false
  | some y=>eqV v y&&qdG a r
section
variable {X:Cx} {K:yg}
theorem valV_flat {b:List (Key×V)} (h:∀ p∈b,j5 p.2=true) {k:Key} {y:V} (e:jG b k=some y):j5 y=true:=by
 have:∃ p∈b,p.2=y:=by
  unfold jG at e;obtain ⟨p,a,rfl⟩:=yn.mp e;exact ⟨p,List.mem_of_find?_eq_some a,rfl⟩
 obtain ⟨p,a,rfl⟩:=this;exact h p a
theorem qec {c:List (Addr×Obj)} {E:List (Option V)} {H:Hp} {s:Shared} (I:Inv X c E H s) {A:Around} (l:A.units<cLine) {d:List (Key×V)} {f:List (Key×Value)} (m:KV d f) (i:∀ p∈d,j5 p.2=true):∀ {g:List (Key×V)} {n:List (Key×Value)},KV g n->(∀ p∈g,j5 p.2=true)->PySem.W.KeqHits A s f n (qdG d g)
 | [],_,.nil,_=>.nil
 | (k,v)::r,_,.cons (b:=q) h t,fa=>by
  obtain ⟨k',u⟩:=q;obtain ⟨j,hv⟩:=h;dsimp only at j hv;subst j;have C:=qec I l m i t fun p B=>fa p (yz _ B);have a:=m.val k;unfold qdG
  cases e:jG d k with
  | none =>
   rw [e] at a;have:valueAt f k=none:=by cases o:valueAt f k with | none=>rfl | some z=>rw [o] at a;cases a
   exact .miss this
  | some y =>
   rw [e] at a;obtain ⟨z,hz,D⟩:=RelO.some_of a;have x:=valV_flat i e;have w:=fa (k,v) yN;exact .hit hz ((qbX I 0).1 A v y _ u z (.flat w x) hv D l) C
theorem qcy {e ty:TE} {b:St} {H:Hp} {Q:VK} (h:e b H fun x c=>∃ a,x=.ref a/\IsD c a/\ty b c fun y d=>∃ o,DGet d a y o/\Q (o.getD .non) d):qeO e ty b H Q:=h
end
noncomputable abbrev Cx.soft (X:Cx):Cx:={ X with calm:=false }
structure RoomW (k:Nat) (A:Around):Prop where
 dp:A.depth+3*k+5<recursionLimit
 un:A.units+16*k+200<cLine
 gd:A.guards=some []
theorem RoomW.deeper {k:Nat} {A:Around} (r:RoomW (k+1) A) (env:Env):RoomW k (A.deeper env):=
 ⟨by have:=r.dp;show A.depth+1+3*k+5<_;omega,by have:=r.un;show A.units+3+16*k+200<_;omega,r.gd⟩
theorem Room.soft {j k:Nat} {A:Around} {h:Option Value} (r:Room k A) (l:j<=k):RoomW j (A.mark h):=⟨by have:=r.dp;show A.depth+3*j+5<_;omega,by have:=r.un;show A.units+16*j+200<_;omega,r.gd⟩
structure FnOkW (P:Program) (w:World) (K:yg) (mg:Str->Option Value) (base:Heap) (k:Nat) (f:Addr) (fd:FuncData) (ps:List Str) (sp:Sp):Prop where
 len:∀ vs H Q E,sp vs H Q E->vs.length=ps.length
 run:∀ (A:Around) (outer:List Env) (s:Shared) (H:Hp) (args:Args) (us:List Value) (vs:List V) (Q:VK) (E:XK),RoomW k A->Env0 P w K mg base A outer s H->BindsTo s fd args (ps.zip us)->Vals vs us->sp vs H Q E ->
  codeAny (model P w) A (.call (.ref f) args) (CR CX0 outer P w H s Q E) s
structure DefOkW (P:Program) (w:World) (K:yg) (mg:Str->Option Value) (base:Heap) (k:Nat) (x:Str) (ps:List Str) (sp:Sp):Prop where
 ex:∃ f fd,FnOkW P w K mg base k f fd ps sp/\mg x=some (.ref f)/\PySem.W.keepIn K (.ref f)=true/\Binds K fd ps []
section
variable {X:Cx} {k:Nat} {f C:Addr} {fd:FuncData} {ps:List Str} {sp:Sp} {x m:Str} {p pos apos:Pos} {e o:Expr} {es:List Expr} {ta:TE} {t:TA}
end
section
variable {P:Program} {w:World} {K:yg} {mg:Str->Option Value} {base:Heap}
end
theorem Inv.laidM {X:Cx} {a:List (Addr×Obj)} {g:St} {H H':Hp} {s:Shared} {h':Heap} {t':Nat} (I:Inv X a g H s) (k:∀ b u,s.heap.get? b=some u->h'.get? b=some u)
  (d:∀ b,b<s.heap.objs.size->H' b=H b) (new:∀ b u,s.heap.objs.size<=b->H' b=some u->ObjOk X.prog X.w H' h' b u):Inv X a g H' { s with heap:=h',toks:=t' }:=by
 have lt:∀ b u,H b=some u->b<s.heap.objs.size:=fun b u e=>kT fun z=>by rw [I.hok.fresh z] at e;cases e
 have up:∀ b u,H b=some u->H' b=some u:=fun b u e=>(d b (lt b u e)).trans e;refine I.step (g':=s.gens) (d':=s.drawn) (ch:=[]) (fun b f=>by simp at f) (fun b o _ _ _ e _=>k b o e) (fun b o _ _ _ e _=>⟨o.slots,k b o e⟩) (fun b o _ e n=>(d b (yH e)).trans n)
  (fun b o _ e=>⟨o,k b o e⟩) (fun b xs e=>up b _ e) (fun b _ _ e=>up b _ e) (fun b j e=>⟨#[],by rw [up b _ e];simp⟩) (fun m ⟨o,h,ep,i,r⟩=>⟨o,h,ep,k _ o i,r⟩) (fun b u e=>?_) I.bare
 by_cases f:s.heap.objs.size<=b
 ·exact new b u f e
 ·rw [d b (kT f)] at e;exact (I.hok b u e).stay (fun c v _ q=>k c v q) (fun c q=>up c _ q) fun c xs q=>up c _ q
section
variable {prog:Program} {w:World} {A:Around} {E:Value->Shared->Prop} {s:Shared}
theorem alive_ {a:Addr} {Q:Option Obj->Shared->Prop} (h:Q (s.heap.get? a) s):wpAny (model prog w) A (loadIfAlive a) Q E s:=fun b p _=>by
 show Sem.wp _ _ (.loadIfAlive a .pure) _ _ _ _;rw [Sem.wp_loadIfAlive];simpa using h
abbrev qfv (h:Heap) (z TI TO:Addr) (b:Value) (a:Bool):Prop:=h.get? z=some { cls:=.type "zip",dict:=none,data:=.fields #[b,.bool a,.bool false,.ref TI,.ref TO],slots:=#[] }
theorem qfR {z TI TO T:Addr} {a:Bool} {f:Obj} {Q:Bool->Shared->Prop} (hz:qfv s.heap z TI TO (rawInt T) a) (d:s.heap.get? T=some f)
  (b:∀ h',qfv h' z TI TO (rawInt T) true->Heap.SameBut z s.heap h'->Q false { s with heap:=h' }):wpAny (model prog w) A (Builtin.SmallTypes.ownedTupleIsFree (.ref z)) Q E s:=by
 unfold Builtin.SmallTypes.ownedTupleIsFree;refine yr (Y7 hz rfl (x:=rawInt T) rfl ?_);show wpAny _ _ (loadIfAlive T>>=_) _ _ _;refine yr (alive_ ?_);rw [d];show wpAny _ _ (field (.ref z) 1>>=_) _ _ _;refine yr (Y7 hz rfl (x:=.bool a) rfl ?_)
 cases a with
 | true=>exact yw (b _ hz ⟨rfl,fun _ _=>rfl⟩)
 | false =>
  show wpAny _ _ (setField (.ref z) 1 (.bool true)>>=_) _ _ _;exact yr (wpAny_setField_rec hz (by simp) fun h1 c e=>yw (b h1 c e))
theorem znx {z TI TO d f a b T:Addr} {F:Bool} {M:Obj} {r t:Nat} {xs ys:Array Value} {x y:Value} {Q:Value->Shared->Prop} (D:ZipApart z TI TO d f a b)
  (hz:qfv s.heap z TI TO (rawInt T) F) (I:s.heap.get? T=some M) (n:IsPair s.heap TI (.ref d) (.ref f))
  (h1:s.heap.IsListIter d a r) (G:s.heap.IsListIter f b t) (p:s.heap.IsList a xs) (q:s.heap.IsList b ys) (J:xs[r]?=some x) (K:ys[t]?=some y)
  (H:∀ h',qfv h' z TI TO (rawInt T) true->h'.IsListIter d a (r+1)->h'.IsListIter f b (t+1)->IsPair h' s.heap.objs.size x y->h'.objs.size=s.heap.objs.size+1 ->
   (∀ c o,c≠z->c≠d->c≠f->s.heap.get? c=some o->h'.get? c=some o)->Q (.ref s.heap.objs.size) { s with heap:=h' }) :
  wpAny (model prog w) A (Builtin.«zip.__next__» ⟨[.ref z],[]⟩) (fun l s'=>∃ v,l=.done (.ret v)/\Q v s') E s:=by
 show wpAny _ _ (field (.ref z) 2>>=_) _ _ _;refine yr <| Y7 hz rfl (x:=.bool false) rfl ?_;show wpAny _ _ (field (.ref z) 3>>=_) _ _ _;refine yr <| Y7 hz rfl (x:=.ref TI) rfl ?_;refine yr <| wpAny_seqItems n rfl ?_;show wpAny _ _ (Builtin.SmallTypes.ownedTupleIsFree _>>=_) _ _ _;refine yr <| qfR hz I fun R P g=>?_;simp only [YQ,Xc];refine yr ?_;rw [<- Array.forIn_toList];simp only [k9,Kd];refine yr (yr (Ys ?_));show wpAny _ _ (Builtin.SmallTypes.nextOf (.ref d)>>=_) _ _ _;refine yr <| XY (h1.extBut g.extBut D.i1z) (p.extBut g.extBut D.l1z) J fun S N h=>yw (yw ?_);refine yr (yr (Ys ?_));show wpAny _ _ (Builtin.SmallTypes.nextOf (.ref f)>>=_) _ _ _;refine yr <| XY ((G.extBut g.extBut D.i2z).extBut h.extBut D.i12.symm) ((q.extBut g.extBut D.l2z).extBut h.extBut D.l2i1) K fun m O i=>yw (yw (yw ?_));refine yr (wpAny_newTuple (yw ⟨_,rfl,?_⟩) (by show 2<=sizeLine;decide));have j:m.objs.size=s.heap.objs.size:=by rw [i.1,h.1,g.1]
 have L:∀ c o,c≠z->c≠d->c≠f->s.heap.get? c=some o->m.get? c=some o:=fun c o u B C e=>i.extBut _ _ C (h.extBut _ _ B (g.extBut _ _ u e));rw [show (Value.ref m.objs.size)=.ref s.heap.objs.size by rw [j]];refine H _ (yu _ (i.extBut _ _ D.i2z.symm (h.extBut _ _ D.i1z.symm P))) ((N.extBut i.extBut D.i12).at fun o e=>yu _ e) (O.at fun o e=>yu _ e) ?_ (by rw [YU,j]) fun c o u B C e=>yu _ (L c o u B C e);rw [<- j];exact yV _ rfl
theorem zne {z TI TO h i a b T:Addr} {F:Bool} {L:Obj} {r t:Nat} {xs ys:Array Value} {Q:Fin->Shared->Prop} (C:A.handled=none) (D:ZipApart z TI TO h i a b)
  (hz:qfv s.heap z TI TO (rawInt T) F) (I:s.heap.get? T=some L) (l:IsPair s.heap TI (.ref h) (.ref i))
  (h1:s.heap.IsListIter h a r) (H:s.heap.IsListIter i b t) (g:s.heap.IsList a xs) (n:s.heap.IsList b ys) (f:xs[r]?=none\/ys[t]?=none)
  (B:∀ h' e,(∀ c o,c≠z->c≠h->c≠i->s.heap.get? c=some o->h'.get? c=some o)->(∃ o,h'.get? e=some o/\o.cls=.type "StopIteration")->E (.ref e) { s with heap:=h' }) :
  wpAny (model prog w) A (Builtin.«zip.__next__» ⟨[.ref z],[]⟩) Q E s:=by
 show wpAny _ _ (field (.ref z) 2>>=_) _ _ _;refine yr <| Y7 hz rfl (x:=.bool false) rfl ?_;show wpAny _ _ (field (.ref z) 3>>=_) _ _ _;refine yr <| Y7 hz rfl (x:=.ref TI) rfl ?_;refine yr <| wpAny_seqItems l rfl ?_;show wpAny _ _ (Builtin.SmallTypes.ownedTupleIsFree _>>=_) _ _ _;refine yr <| qfR hz I fun N P d=>?_;simp only [YQ,Xc];refine yr ?_;rw [<- Array.forIn_toList];simp only [k9,Kd];refine yr (yr (Ys ?_));show wpAny _ _ (Builtin.SmallTypes.nextOf (.ref h)>>=_) _ _ _
 cases p:xs[r]? with
 | none=>exact yr <| wpAny_nextOf_list_end C (h1.extBut d.extBut D.i1z) (g.extBut d.extBut D.l1z) p fun y e j m=>B y e (fun c o u v _ q=>j _ _ v (d.extBut _ _ u q)) m
 | some x =>
  have J:ys[t]?=none:=f.elim (fun z=>by rw [p] at z;cases z) id;refine yr <| XY (h1.extBut d.extBut D.i1z) (g.extBut d.extBut D.l1z) p fun y O j=>yw (yw ?_);refine yr (yr (Ys ?_));show wpAny _ _ (Builtin.SmallTypes.nextOf (.ref i)>>=_) _ _ _;exact yr <| wpAny_nextOf_list_end C ((H.extBut d.extBut D.i2z).extBut j.extBut D.i12.symm) ((n.extBut d.extBut D.l2z).extBut j.extBut D.l2i1) J fun G e M m=>B G e (fun c o u v K q=>M _ _ K (j.extBut _ _ v (d.extBut _ _ u q))) m
def ZAt (z TI TO N:Nat) (h:Heap):Prop:=IsZip h z TI TO .none\/∃ T a o,N<=T/\qfv h z TI TO (rawInt (T:Nat)) a/\h.get? T=some o
theorem ZAt.typ {z TI TO N:Nat} (h:ZAt z TI TO N s.heap):s.TypeIs (.ref z) "zip":=by
 rcases h with e | ⟨_,_,_,_,e,_⟩<;>exact ⟨_,e,rfl⟩
theorem znx_any {z TI TO h i a b N:Addr} {G H:Nat} {xs ys:Array Value} {x y:Value} {Q:Option Value->Shared->Prop} (D:ZipApart z TI TO h i a b) (O:N<=s.heap.objs.size)
  (hz:ZAt z TI TO N s.heap) (l:IsPair s.heap TI (.ref h) (.ref i)) (d:∃ u v,IsPair s.heap TO u v)
  (h1:s.heap.IsListIter h a G) (I:s.heap.IsListIter i b H) (m:s.heap.IsList a xs) (n:s.heap.IsList b ys) (K:xs[G]?=some x) (L:ys[H]?=some y) (f:z<N/\h<N/\i<N)
  (J:∀ h',ZAt z TI TO N h'->(∃ u v,IsPair h' TO u v)->h'.IsListIter h a (G+1)->h'.IsListIter i b (H+1)->IsPair h' s.heap.objs.size x y->h'.objs.size=s.heap.objs.size+1 ->
   (∀ c o,c≠z->c≠TO->c≠h->c≠i->s.heap.get? c=some o->h'.get? c=some o)->Q (some (.ref s.heap.objs.size)) { s with heap:=h' }) :
  wpAny (model prog w) A (pyNext (.ref z)) Q E s:=by
 obtain ⟨u,v,d⟩:=d;have typ:=hz.typ;rcases hz with hz | ⟨T,b1,o,hT,hz,ho⟩
 ·refine wpAny_pyNext_zip_item D hz l d h1 I m n K L fun g r M t B p C j=>J g (.inr ⟨s.heap.objs.size,false,_,O,r,p⟩) ⟨_,_,M⟩ t B p C j
 ·unfold pyNext;refine yr (ke (XF (name:=Str.ofString "__next__") typ kq (X8 kq typ F.entry_zip_next (znx D hz ho l h1 I m n K L fun g r t B p C j=>yw ?_) (F.args_zip_next_1 _))));exact J g (.inr ⟨T,true,o,hT,r,j _ _ (Yj (yj f.1 hT)) (Yj (yj f.2.1 hT)) (Yj (yj f.2.2 hT)) ho⟩) ⟨_,_,j _ _ D.TOz D.TOi1 D.TOi2 d⟩ t B p C fun c q P _ R S e=>j c q P R S e
theorem zne_any {z TI TO l m a b N:Addr} {t x:Nat} {xs ys:Array Value} {Q:Option Value->Shared->Prop} (r:A.handled=none) (D:ZipApart z TI TO l m a b)
  (hz:ZAt z TI TO N s.heap) (h:IsPair s.heap TI (.ref l) (.ref m)) (f:∃ u v,IsPair s.heap TO u v)
  (h1:s.heap.IsListIter l a t) (n:s.heap.IsListIter m b x) (i:s.heap.IsList a xs) (j:s.heap.IsList b ys) (d:xs[t]?=none\/ys[x]?=none)
  (p:∀ h',(∀ c o,c≠z->c≠TO->c≠l->c≠m->s.heap.get? c=some o->h'.get? c=some o)->Q none { s with heap:=h' }):wpAny (model prog w) A (pyNext (.ref z)) Q E s:=by
 obtain ⟨u,v,f⟩:=f;have typ:=hz.typ;rcases hz with hz | ⟨T,b1,o,hT,hz,ho⟩
 ·exact wpAny_pyNext_zip_end r D hz h f h1 n i j d p
 ·unfold pyNext;refine yr (ke (XF (name:=Str.ofString "__next__") typ kq (X8 kq typ F.entry_zip_next (zne r D hz ho h h1 n i j d fun g e k y=>?_) (F.args_zip_next_1 _))));obtain ⟨q,B,hc⟩:=y;refine yr (wpAny_isInstance (T:="StopIteration") (b:=true) ⟨q,B,hc⟩ isSubtype_stop ?_);exact yw (p _ fun c o C _ G H e=>k c o C G H e)
end
structure LZ (z TI TO i1 i2 a b S N:Nat) (xs ys:Array Value) (h0:Heap) (i:Nat) (acc:Array Value) (c:Nat) (h:Heap):Prop where
 zp:ZAt z TI TO N h
 ti:IsPair h TI (.ref i1) (.ref i2)
 tO:∃ u v,IsPair h TO u v
 j1:h.IsListIter i1 a i
 j2:h.IsListIter i2 b i
 la:h.IsList a xs
 lb:h.IsList b ys
 ls:h.get? S=some { cls:=.type "list",dict:=none,data:=.seq acc c,slots:=#[] }
 sz:N<=h.objs.size
 len:acc.size=i
 its:∀ (j:Nat) v,acc[j]?=some v->∃ t x y,v=.ref t/\N<=t/\IsPair h t x y/\xs[j]?=some x/\ys[j]?=some y
 nd:∀ (j k:Nat) v,acc[j]?=some v->acc[k]?=some v->j=k
 kp:∀ q o,q<N->q≠z->q≠TO->q≠i1->q≠i2->q≠S->h0.get? q=some o->h.get? q=some o
structure LE (z TO i1 i2 S N:Nat) (xs ys:Array Value) (h0:Heap) (n:Nat) (acc:Array Value) (c:Nat) (h:Heap):Prop where
 ls:h.get? S=some { cls:=.type "list",dict:=none,data:=.seq acc c,slots:=#[] }
 len:acc.size=n
 its:∀ (j:Nat) v,acc[j]?=some v->∃ t x y,v=.ref t/\N<=t/\IsPair h t x y/\xs[j]?=some x/\ys[j]?=some y
 nd:∀ (j k:Nat) v,acc[j]?=some v->acc[k]?=some v->j=k
 kp:∀ q o,q<N->q≠z->q≠TO->q≠i1->q≠i2->q≠S->h0.get? q=some o->h.get? q=some o
structure LA (z TI TO i1 i2 a b S N:Nat):Prop where
 D:ZipApart z TI TO i1 i2 a b
 lt:z<S/\TI<S/\TO<S/\i1<S/\i2<S/\a<S/\b<S
 S:S<N
theorem LZ.at {z TI TO g l a b S N:Nat} {xs ys:Array Value} {A h h':Heap} {i c s:Nat} {acc d:Array Value} (L:LA z TI TO g l a b S N) (x:LZ z TI TO g l a b S N xs ys A i acc c h)
  (k:Heap.SameBut S h h') (U:h'.get? S=some { cls:=.type "list",dict:=none,data:=.seq d s,slots:=#[] }) (p:d.size=i) (m:∀ (j:Nat) v,d[j]?=some v->∃ t x y,v=.ref t/\N<=t/\IsPair h t x y/\xs[j]?=some x/\ys[j]?=some y) (nd:∀ (j k:Nat) v,d[j]?=some v->d[k]?=some v->j=k):LZ z TI TO g l a b S N xs ys A i d s h':=by
 obtain ⟨l1,l2,K,M,O,P,R⟩:=L.lt;have B:=L.S;have f:∀ {q o},q≠S->h.get? q=some o->h'.get? q=some o:=fun n e=>k.extBut _ _ n e;refine ⟨?_,f (yI l2) x.ti,?_,x.j1.at fun o e=>f (yI M) e,x.j2.at fun o e=>f (yI O) e,x.la.extBut k.extBut (yI P),x.lb.extBut k.extBut (yI R),U,by rw [k.1];exact x.sz,p,fun j v e=>?_,nd,fun q o C D E F G r e=>f r (x.kp q o C D E F G r e)⟩
 ·rcases x.zp with e | ⟨T,b1,o,hT,e,eo⟩
  ·exact .inl (f (yI l1) e)
  ·exact .inr ⟨T,b1,o,hT,f (yI l1) e,f (Yj (yj B hT)) eo⟩
 ·obtain ⟨u,v,e⟩:=x.tO;exact ⟨u,v,f (yI K) e⟩
 ·obtain ⟨t,u,v,H,w,I,J⟩:=m j v e;exact ⟨t,u,v,H,w,f (Yj (yj B w)) I,J⟩
section
variable {prog:Program} {w:World} {A:Around} {R:Result->Shared->Prop} {z TI TO i1 i2 a b S N:Nat} {xs ys:Array Value} {h0:Heap}
theorem zloop (hh:A.handled=none) (L:LA z TI TO i1 i2 a b S N) (hn:min xs.size ys.size<=2 ^ 24) (res:Value):∀ (k i:Nat) (s:Shared) (acc:Array Value) (c:Nat),min xs.size ys.size-i=k->i<=min xs.size ys.size->LZ z TI TO i1 i2 a b S N xs ys h0 i acc c s.heap ->
  (∀ h' M O,LE z TO i1 i2 S N xs ys h0 (min xs.size ys.size) M O h'->R (.ok (.ret res)) { s with heap:=h' })->codeAny (model prog w) A (.builtin "list.extend.loop" ⟨[.ref S,.ref z,res],[]⟩) R s:=by
 have C:=L.S;obtain ⟨l1,l2,U,E,G,l6,l7⟩:=L.lt;have p:∀ {t q:Nat},N<=t->q<S->t≠q:=fun h1 h2=>by omega
 intro k
 induction k with
 | zero =>
  intro i s acc c hk hi x hR;refine codeAny_builtin F.entry_extend_loop ?_;rw [Around.under_plainId Xu _];show wpAny _ A.in1 (pyNext _>>=_) _ _ s
  have he:xs[i]?=none\/ys[i]?=none:=by
   rcases Nat.le_total xs.size ys.size with q | q
   ·exact .inl (xZ (by omega))
   ·exact .inr (xZ (by omega))
  refine yr (zne_any hh L.D x.zp x.ti x.tO x.j1 x.j2 x.la x.lb he fun h' l=>yw (hR h' acc c ⟨?_,by rw [x.len];omega,fun j v e=>?_,x.nd,fun q o H y I J K X e=>l q o y I J K (x.kp q o H y I J K X e)⟩))
  ·exact l S _ (Yj l1) (Yj U) (Yj E) (Yj G) x.ls
  ·obtain ⟨t,u,v,m,g,e3,e4⟩:=x.its j v e;exact ⟨t,u,v,m,g,l t _ (p g l1) (p g U) (p g E) (p g G) e3,e4⟩
 | succ k ih =>
  intro i s acc c hk hi x hR;refine codeAny_builtin F.entry_extend_loop ?_;rw [Around.under_plainId Xu _];show wpAny _ A.in1 (pyNext _>>=_) _ _ s;obtain ⟨u,hu⟩:∃ u,xs[i]?=some u:=⟨_,xB (by omega)⟩;obtain ⟨v,hv⟩:∃ v,ys[i]?=some v:=⟨_,xB (by omega)⟩;refine yr (znx_any L.D x.sz x.zp x.ti x.tO x.j1 x.j2 x.la x.lb hu hv ⟨kX l1 C,kX E C,kX G C⟩ fun h1 z1 ab m g eP Z l=>?_);have P:=l S _ (Yj l1) (Yj U) (Yj E) (Yj G) x.ls;show wpAny _ A.in1 (updateSeq S (·.push (.ref s.heap.objs.size))>>=_) _ _ _;have f:=x.len;have hN:=x.sz
  have W:∀ j:Nat,acc[j]?≠some (.ref s.heap.objs.size):=fun j e=>by
   obtain ⟨t,Y,w',q1,B,q3,_⟩:=x.its j _ e;cases q1;exact absurd (yH q3) (Yy _)
  have aa:∀ (j k:Nat) r,(acc.push (.ref s.heap.objs.size))[j]?=some r->(acc.push (.ref s.heap.objs.size))[k]?=some r->j=k:=fun j k r m g=>by
   rw [Array.getElem?_push] at m g;split at m<;>split at g
   ·rename_i H y;rw [H,y]
   ·cases m;exact absurd g (W k)
   ·cases g;exact absurd m (W j)
   ·exact x.nd j k r m g
  obtain ⟨O,ac⟩:∃ O,(h1.update S (Obj.mapSeq (·.push (.ref s.heap.objs.size)))).get? S=some { cls:=.type "list",dict:=none,data:=.seq (acc.push (.ref s.heap.objs.size)) O,slots:=#[] }:=⟨_,YC (Obj.mapSeq (·.push (.ref s.heap.objs.size))) P rfl⟩;refine yr (kt P rfl (yw ⟨plainId_quiet Xu _,ih (i+1) _ (acc.push (.ref s.heap.objs.size)) O (by omega) (by omega) ?_ hR⟩) ?_ ?_)
  ·have sb:Heap.SameBut S h1 (h1.update S (Obj.mapSeq (·.push (.ref s.heap.objs.size)))):=Xv ..;have h:∀ {q o},q≠S->h1.get? q=some o->(h1.update S (Obj.mapSeq (·.push (.ref s.heap.objs.size)))).get? q=some o:=fun n e=>sb.extBut _ _ n e;refine ⟨?_,h (yI l2) (l _ _ L.D.TIz L.D.TITO L.D.TIi1 L.D.TIi2 x.ti),?_,m.at fun o e=>h (yI E) e,g.at fun o e=>h (yI G) e,?_,?_,ac,by rw [sb.1,Z];omega,by rw [Array.size_push,f],fun j r e=>?_,aa,fun q o H y I J K X e=>h X (l q o y I J K (x.kp q o H y I J K X e))⟩
   ·rcases z1 with e | ⟨T,b1,o,hT,e,eo⟩
    ·exact .inl (h (yI l1) e)
    ·exact .inr ⟨T,b1,o,hT,h (yI l1) e,h (Yj (yj C hT)) eo⟩
   ·obtain ⟨Y,r,e⟩:=ab;exact ⟨Y,r,h (yI U) e⟩
   ·obtain ⟨o,e,d⟩:=x.la;exact ⟨o,h (yI l6) (l _ _ L.D.l1z L.D.l1TO L.D.l1i1 L.D.l1i2 e),d⟩
   ·obtain ⟨o,e,d⟩:=x.lb;exact ⟨o,h (yI l7) (l _ _ L.D.l2z L.D.l2TO L.D.l2i1 L.D.l2i2 e),d⟩
   ·rw [Array.getElem?_push] at e;split at e
    ·rename_i ej
     cases e;rw [ej,f];exact ⟨_,u,v,rfl,hN,h (Yj (yj C hN)) eP,hu,hv⟩
    ·obtain ⟨t,Y,w',q1,B,q3,q4⟩:=x.its j r e;exact ⟨t,Y,w',q1,B,h (Yj (yj C B)) (l t _ (p B l1) (p B U) (p B E) (p B G) q3),q4⟩
  ·rw [f,YL];omega
  ·show (acc.push _).size<=sizeLine+1;rw [Array.size_push,f,YL];omega
theorem zip_len0:typeLookup (.type "zip") "__len__"=pure none:=by rw [typeLookup_type,builtinLookup_eq_fast];kernel_rfl
theorem zip_hint0:typeLookup (.type "zip") "__length_hint__"=pure none:=by rw [typeLookup_type,builtinLookup_eq_fast];kernel_rfl
theorem zext {s:Shared} {o:Nat} (t:A.handled=none) (L:LA z TI TO i1 i2 a b S N) (u:min xs.size ys.size<=2 ^ 24) (res:Value) (hz:IsZip s.heap z TI TO .none) (x:LZ z TI TO i1 i2 a b S N xs ys h0 0 #[] o s.heap)
  (r:∀ h' c d,LE z TO i1 i2 S N xs ys h0 (min xs.size ys.size) c d h'->R (.ok (.ret res)) { s with heap:=h' }) :
  wpAny (model prog w) A.in1 (Builtin.List.listExtendWith (.ref S) (.ref z) res) (fun g s'=>match g with | .done f=>R (.ok f) s' | .again d=>d.quiet=true/\codeAny (model prog w) A d R s') (fun e s'=>R (.error e) s') s:=by
 obtain ⟨l1,_⟩:=L.lt;have typ:s.TypeIs (.ref z) "zip":=⟨_,hz,rfl⟩;unfold Builtin.List.listExtendWith;refine yr <| wpAny_typeOf typ ?_;have y:Builtin.List.listSameRef (.ref S) (.ref z)=false:=by simp [Builtin.List.listSameRef,Yj l1]
 have m:(Value.type "zip"==.type "list")=false/\(Value.type "zip"==.type "tuple")=false:=by decide
 simp only [y,m.1,m.2,kK,YQ,Xc];refine yr <| kS hz <| yr <| Ys ?_;unfold Builtin.List.listLengthHint;refine yr <| wpAny_specialOf typ zip_len0 ?_;show wpAny _ _ (specialOf (Value.ref z) (Str.ofString "__length_hint__")>>=_) _ _ _;refine yr <| wpAny_specialOf typ zip_hint0 <| yw ?_;show wpAny _ _ (rule "list.extend.makes-room">>=fun _=>Builtin.List.listTouch (.ref S)>>=fun _=>again (.builtin "list.extend.loop" ⟨[.ref S,.ref z,res],[]⟩)) _ _ _;refine yr <| wpAny_rule <| yr ?_;show wpAny _ _ (updateSeq S (·.push .none)>>=fun _=>updateSeq S (·.pop)) _ _ _;refine yr <| kt x.ls rfl ?_;have h:=YC (Obj.mapSeq (·.push Value.none)) x.ls rfl;refine kt (hz:=by seq_fits) h rfl ?_;have p:=YC (Obj.mapSeq (·.pop)) h rfl
 have B:Heap.SameBut S s.heap ((s.heap.update S (Obj.mapSeq (·.push Value.none))).update S (Obj.mapSeq (·.pop))):=by
  have i:Heap.SameBut S s.heap (s.heap.update S (Obj.mapSeq (·.push Value.none))):=Xv ..;have l:Heap.SameBut S (s.heap.update S (Obj.mapSeq (·.push Value.none))) ((s.heap.update S (Obj.mapSeq (·.push Value.none))).update S (Obj.mapSeq (·.pop))):=Xv ..;exact ⟨l.1.trans i.1,fun q n=>(l.2 q n).trans (i.2 q n)⟩
 exact yw ⟨plainId_quiet Xu _,zloop t L u res _ 0 _ #[] _ rfl (YI _) (x.at L B p rfl (fun j v e=>by simp at e) fun j k v e=>by simp at e) r⟩
theorem zinit {s:Shared} {i:Nat} (n:A.handled=none) (L:LA z TI TO i1 i2 a b S N) (o:min xs.size ys.size<=2 ^ 24) (hz:IsZip s.heap z TI TO .none) (x:LZ z TI TO i1 i2 a b S N xs ys h0 0 #[] i s.heap)
  (m:∀ h' c d,LE z TO i1 i2 S N xs ys h0 (min xs.size ys.size) c d h'->R (.ok (.ret .none)) { s with heap:=h' }) :
  wpAny (model prog w) A.in1 (Builtin.«list.__init__» ⟨[.ref S,.ref z],[]⟩) (fun g s'=>match g with | .done f=>R (.ok f) s' | .again d=>d.quiet=true/\codeAny (model prog w) A d R s') (fun e s'=>R (.error e) s') s:=by
 obtain ⟨l1,_⟩:=L.lt;show wpAny _ _ (do let old <- Builtin.List.listItems (.ref S);Builtin.List.listUpdate (.ref S) (fun _=>#[]);letGo old.toList.reverse;Builtin.List.listExtendWith (.ref S) (.ref z) .none) _ _ s;refine yr ?_;unfold Builtin.List.listItems;refine yr <| wpAny_seqItems x.ls rfl <| yw ?_;show wpAny _ _ (updateSeq S (fun _=>#[])>>=fun _=>letGo _>>=fun _=>Builtin.List.listExtendWith (.ref S) (.ref z) .none) _ _ s;refine yr <| kt x.ls rfl ?_;have l:=YC (Obj.mapSeq (fun _=>(#[]:Array Value))) x.ls rfl;have h:Heap.SameBut S s.heap (s.heap.update S (Obj.mapSeq (fun _=>(#[]:Array Value)))):=Xv ..;refine yr <| wpAny_letGo ?_;exact zext n L o .none (h.extBut _ _ (yI l1) hz) (x.at L h l rfl (fun j v e=>by simp at e) fun j k v e=>by simp at e) m
end
section
variable {prog:Program} {w:World} {A:Around} {E:Value->Shared->Prop} {s:Shared}
theorem call_list_zip {z TI TO h i a b:Nat} {xs ys:Array Value} {Q:Value->Shared->Prop} (H:A.handled=none) (D:ZipApart z TI TO h i a b) (I:min xs.size ys.size<=2 ^ 24) (hz:IsZip s.heap z TI TO .none) (l:IsPair s.heap TI (.ref h) (.ref i)) (f:∃ u v,IsPair s.heap TO u v)
  (h1:s.heap.IsListIter h a 0) (y:s.heap.IsListIter i b 0) (m:s.heap.IsList a xs) (n:s.heap.IsList b ys)
  (G:∀ h' c t,LE z TO h i s.heap.objs.size (s.heap.objs.size+1) xs ys s.heap (min xs.size ys.size) c t h'->Q (.ref s.heap.objs.size) { s with heap:=h' }):wpAny (model prog w) A (call (.type "list") [.ref z]) Q E s:=by
 refine callType_codes (Q₁:=fun r g=>r=.ref s.heap.objs.size/\g={ s with heap:=s.heap.push { cls:=.type "list",data:=.seq #[] } }) F.called_list (F.typeCall_list_1 _) F.entry_list_init (code_list_new _ ⟨rfl,rfl⟩) fun r g p=>?_;obtain ⟨rfl,rfl⟩:=p;have B:(s.heap.push { cls:=.type "list",data:=.seq #[] }).get? s.heap.objs.size=some { cls:=.type "list",data:=.seq #[] }:=yV _ rfl;have up:∀ {q o},s.heap.get? q=some o->(s.heap.push { cls:=.type "list",data:=.seq #[] }).get? q=some o:=fun e=>yu _ e;have lt:∀ {q o},s.heap.get? q=some o->q<s.heap.objs.size:=fun e=>yH e;obtain ⟨u,v,f⟩:=f
 have L:LA z TI TO h i a b s.heap.objs.size (s.heap.objs.size+1):=by
  refine ⟨D,⟨lt hz,lt l,lt f,?_,?_,?_,?_⟩,X7 _⟩
  ·obtain ⟨_,e,_⟩:=h1;exact lt e
  ·obtain ⟨_,e,_⟩:=y;exact lt e
  ·obtain ⟨_,e,_⟩:=m;exact lt e
  ·obtain ⟨_,e,_⟩:=n;exact lt e
 have x:LZ z TI TO h i a b s.heap.objs.size (s.heap.objs.size+1) xs ys s.heap 0 #[] 0 (s.heap.push { cls:=.type "list",data:=.seq #[] }):=by
  refine ⟨.inl (up hz),up l,⟨u,v,up f⟩,h1.at fun o e=>up e,y.at fun o e=>up e,?_,?_,B,by rw [YU];exact yh _,rfl,fun j v e=>by simp at e,fun j k v e=>by simp at e,fun q o _ _ _ _ _ _ e=>up e⟩
  ·obtain ⟨o,e,d⟩:=m;exact ⟨o,up e,d⟩
  ·obtain ⟨o,e,d⟩:=n;exact ⟨o,up e,d⟩
 exact ⟨⟨_,B,rfl⟩,F.args_list_init_2 _ _,zinit (A:=A.in1) H L I (up hz) x fun h' c t C=>⟨rfl,G h' c t C⟩⟩
end
structure Zl (H H':Hp) (l:Addr) (ts:List Addr) (xs ys:List V):Prop where
 sm:L2.Same H H'
 fl:H l=none
 ls:H' l=some (.lst (ts.map V.ref))
 len:ts.length=min xs.length ys.length
 tp:∀ (j:Nat) t,ts[j]?=some t->H t=none/\∃ x y,xs[j]?=some x/\ys[j]?=some y/\H' t=some (.tup [x,y])
theorem qfS (H:Hp):∀ (a:List Addr) (xs ys:List V),a.Nodup->a.length<=xs.length->a.length<=ys.length->∃ G:Hp,(∀ (j:Nat) t x y,a[j]?=some t->xs[j]?=some x->ys[j]?=some y->G t=some (.tup [x,y]))/\∀ q,q∉a->G q=H q
 | [],_,_,_,_,_=>⟨H,fun j t x y e=>by simp at e,fun _ _=>rfl⟩
 | t::a,[],_,_,h,_=>by simp at h
 | t::a,_::_,[],_,_,h=>by simp at h
 | t::a,x::xs,y::ys,nd,h1,h2=>by
  obtain ⟨m,n⟩:=yo.mp nd;obtain ⟨G,i,l⟩:=qfS H a xs ys n (by simpa using h1) (by simpa using h2);refine ⟨upd G t (.tup [x,y]),fun j t' o p c d f=>?_,fun q g=>?_⟩
  ·cases j with
   | zero=>simp at c d f;subst c d f;exact qb
   | succ j =>
    have b:a[j]?=some t':=by simpa using c
    rw [qf fun z=>m (by rw [<- z];exact ye b)];exact i j t' o p b (by simpa using d) (by simpa using f)
  ·rw [qf fun z=>g (by rw [z];exact yN)];exact l q fun z=>g (yz _ z)
noncomputable def refN:Value->Nat
 | .ref a=>a
 | _=>0
def tLZ (K:yg) (d:TA):TE:=fun f H Q=>d f H fun vs c=>∃ a b xs ys,vs=[.ref a,.ref b]/\SqL K c a xs/\SqL K c b ys/\xs.length<=1000/\∀ l e H',Zl c H' l e xs ys->Q (.ref l) H'
theorem vLZ {K:yg} {d:TA} {e:St} {H:Hp} {Q:VK} (h:d e H fun vs c=>∃ a b xs ys,vs=[.ref a,.ref b]/\SqL K c a xs/\SqL K c b ys/\xs.length<=1000/\∀ l f H',Zl c H' l f xs ys->Q (.ref l) H'):tLZ K d e H Q:=h
theorem qcS {X:Cx} {K:yg} {a b:Expr} {ta:TA} {p p2 ao f:Pos} (hK:X.K=K) (hc:X.calm=true) (hg:Gl X "list") (ag:Gl X "zip") (F:X.mg "list"=none) (ak:X.mg "zip"=none) (ha:PA X [a,b] ta) (hs:starEach [a,b] X.env=[(false,eval a X.env),(false,eval b X.env)]:=by rfl) (P:starEach [b] X.env=[(false,eval b X.env)]:=by rfl)
  (he:starEach [.Call (.Name "zip" p2) [a,b] [] f] X.env=[(false,eval (.Call (.Name "zip" p2) [a,b] [] f) X.env)]:=by rfl):PE X (.Call (.Name "list" p) [.Call (.Name "zip" p2) [a,b] [] f] [] ao) (tLZ K ta):=by
 subst hK;intro Z s σ H Q I h;refine Call_ (zI I hg F Xj (Yu (T:="list") ?_ he rfl));rw [he];show wpAny _ _ (spliced ((false,eval (.Call (.Name "zip" p2) [a,b] [] f) X.env)::[])) _ _ s;refine XD ?_;refine Call_ (zI I ag ak qdl (Yu (thn (ha f Z s σ H _ I h) fun us w ⟨vs,H1,A,r1,q1⟩=>?_) (by rw [hs,P]) (by rw [P];rfl)));obtain ⟨a,b,xs,ys,e,hq,al,hx,q⟩:=q1;subst e
 cases r1 with
 | cons r rr =>
  cases rr with
  | cons r2 rr =>
   cases rr;cases r;cases r2;obtain ⟨C,rv,pl,_⟩:=A.list hq;obtain ⟨l,aa,D,_⟩:=A.list al;have am:a<w.heap.objs.size:=by obtain ⟨_,e,_⟩:=pl.isList;exact yH e
   have an:b<w.heap.objs.size:=by obtain ⟨_,e,_⟩:=D.isList;exact yH e
   have l1:=rv.length;have l2:=aa.length;refine call_zip_2 pl.isList D.isList fun h1 hz ae af ah ai hsz hk=>XM ?_;have la:h1.IsList a C.toArray:=by obtain ⟨o,e,d⟩:=pl.isList;exact ⟨o,hk _ _ e,d⟩
   have B:h1.IsList b l.toArray:=by obtain ⟨o,e,d⟩:=D.isList;exact ⟨o,hk _ _ e,d⟩
   refine call_list_zip (A.ok.hd hc) (PySem.W.ktu_apart _ _ _ am an) (by simp only [yx];omega) hz ae ⟨_,_,af⟩ ah ai la B fun h2 acc c L=>?_;have L:LE (w.heap.objs.size+4) (w.heap.objs.size+3) w.heap.objs.size (w.heap.objs.size+1) h1.objs.size (h1.objs.size+1) C.toArray l.toArray h1 (min C.toArray.size l.toArray.size) acc c h2:=L;have O:acc.size=min xs.length ys.length:=by rw [L.len,l1,l2,yx,yx]
   obtain ⟨g,R⟩:∃ g,g=acc.toList.map refN:=⟨_,rfl⟩;have n:g.length=min xs.length ys.length:=by rw [R,ya,xo,O]
   have J:∀ (j:Nat) t,g[j]?=some t->acc[j]?=some (.ref t)/\h1.objs.size+1<=t/\∃ x y,xs[j]?=some x/\ys[j]?=some y/\∃ u v,RelV x u/\RelV y v/\IsPair h2 t u v:=fun j t e=>by
    rw [R,yd,xz] at e;obtain ⟨v,ev,et⟩:=yn.mp e;obtain ⟨t',u1,u2,q1,q2,q3,q4,q5⟩:=L.its j v ev;subst q1;have ad:t'=t:=et;subst ad;have hj:j<acc.size:=(Y4.mp ev).1;obtain ⟨x,S⟩:∃ x,xs[j]?=some x:=⟨_,yb (by omega)⟩;obtain ⟨y,U⟩:∃ y,ys[j]?=some y:=⟨_,yb (by omega)⟩;obtain ⟨a1,ab,ap⟩:=rv.get S;obtain ⟨a2,ac,aq⟩:=aa.get U;have b1:a1=u1:=by rw [List.getElem?_toArray,ab] at q4;cases q4;rfl
    have b2:a2=u2:=by rw [List.getElem?_toArray,ac] at q5;cases q5;rfl
    subst b1 b2;exact ⟨ev,q2,x,y,S,U,a1,a2,ap,aq,q3⟩
   have nd:g.Nodup:=by
    refine xA.mpr fun i j hi hj aj e=>?_;have M:=(J i g[i] (yb hi)).1;have N:=(J j g[j] (yb hj)).1;rw [e] at M;exact absurd (L.nd i j _ M N) (yI aj)
   have mem:∀ t∈g,h1.objs.size+1<=t:=fun t ht=>by
    obtain ⟨j,e⟩:=Xk.mp ht;exact (J j t e).2.1
   obtain ⟨G,g1,g2⟩:=qfS H1 g xs ys nd (by omega) (by omega)
   have Y:∀ q,q<w.heap.objs.size->upd G h1.objs.size (.lst (g.map V.ref)) q=H1 q:=fun q hq=>by
    rw [qf (yI (by omega))];exact g2 q fun z=>by have:=mem q z;omega
   have tl:∀ t∈g,t≠h1.objs.size:=fun t ht=>by have:=mem t ht;exact Yj this
   refine ⟨.ref _,_,A.laidM (t':=w.toks) (H':=upd G h1.objs.size (.lst (g.map V.ref))) (fun b u e=>?_) Y fun b u hb e=>?_,rfl,q _ g _ ⟨fun b o e=>?_,A.hok.fresh (by show (w.heap.objs.size:Nat)<=h1.objs.size;omega),qb,n,fun j t e=>?_⟩⟩
   ·have B:∀ m:Nat,w.heap.objs.size<=m->b<m:=fun m F=>yj (yH e) F;exact L.kp b u (B _ (by omega)) (yI (B _ (by omega))) (yI (B _ (by omega))) (yI (B _ (by omega))) (yI (B _ (by omega))) (yI (B _ (by omega))) (hk b u e)
   ·by_cases hl:b=h1.objs.size
    ·subst hl;rw [qb] at e;cases e;refine ⟨by rw [ya,n,YL];omega,acc.toList,c,zn (by rw [ya,n];exact O.symm) fun j y u M N=>?_,by rw [Array.toArray_toList];exact L.ls⟩;rw [yd] at M;obtain ⟨t,et,E⟩:=yn.mp M;subst E;rw [xz,(J j t et).1] at N;cases N;rfl
    ·rw [qf hl] at e;by_cases F:b∈g
     ·obtain ⟨j,ej⟩:=Xk.mp F;obtain ⟨_,_,x,y,ex,E,u1,u2,r1,r2,ep⟩:=J j b ej;rw [g1 j b x y ej ex E] at e;cases e;exact ⟨by show 2<=sizeLine;decide,[u1,u2],.cons r1 (.cons r2 .nil),⟨_,ep,rfl,_,rfl⟩⟩
     ·rw [g2 b F,A.hok.fresh hb] at e;cases e
   ·rw [Y b (kT fun z=>by rw [A.hok.fresh z] at e;cases e)];exact e
   ·obtain ⟨_,N,x,y,ex,E,_⟩:=J j t e;refine ⟨A.hok.fresh (by omega),x,y,ex,E,?_⟩;rw [qf (tl t (ye e))];exact g1 j t x y e ex E
section
variable {X:Cx}
def qgI (K:yg):List V->Hp->VK->Prop:=fun xs H Q=>∃ (p:Addr) (bs:List Bool),xs=[.ref p]/\SqL K H p (bs.map V.bl)/\Q (.bl (bs.any id)) H
theorem call_any (hc:X.calm=true):zm X (.builtin "any") (qgI X.K):=by
 intro f s D H xs us Q I r h;obtain ⟨p,bs,rfl,x,q⟩:=h;obtain ⟨u,rfl,B⟩:=qaO r;cases B;obtain ⟨z,C,pl,hz⟩:=I.list x;have e:=qbS C;subst e;have n:X.A.in1.handled=none:=I.ok.hd hc;refine call_any_walk (XU pl.isList ?_)
 have g:p≠s.heap.objs.size:=by
  obtain ⟨o,w,_⟩:=pl.isList;exact yI (yH w)
 refine ⟨s.heap.objs.size,_,_,_,_,_,fun i=>(bs[i]?).getD false,rfl,Walks.list n s.heap.objs.size p g (bs.map Value.bool).toArray,⟨⟨_,yV _ rfl,rfl,rfl⟩,pl.isList.at fun o e=>yu _ e⟩,fun i v s Q E hv y=>?_,fun h' tk t=>?_⟩
 ·have a:(bs.map Value.bool)[i]?=some v:=by simpa using hv
  rw [yd] at a
  cases e:bs[i]? with
  | none=>rw [e] at a;cases a
  | some b =>
   rw [e] at a;cases a;have c:Q ((bs[i]?).getD false) s:=y;rw [e] at c;exact yw c
 ·have e:((List.range (bs.map Value.bool).toArray.size).any fun i=>(bs[i]?).getD false)=bs.any id:=by
   rw [yx,ya]
   have j:∀ bs:List Bool,((List.range bs.length).any fun i=>(bs[i]?).getD false)=bs.any id:=by
    intro bs
    induction bs with
    | nil=>rfl
    | cons b r ih =>
     rw [yC,List.range_succ_eq_map,Xi,Kj,Xi,<- ih];rfl
   exact j bs
  rw [e];refine ⟨.bl _,H,?_,rfl,q⟩;have l:Inv X f D H { s with heap:=s.heap.push { cls:=.type "list_iterator",data:=.fields #[.ref p,.int 0 0] } }:=I.kept (t':=s.toks) fun b o e=>yu _ e;have d:=I.fpOk (b:=s.heap.objs.size) (yh _) (I.hok.fresh (yh _));exact l.turned (it:=s.heap.objs.size) (h':=h') (t':=tk) (fun b o m e=>t b o (by simpa using m) e) d.1 d.2.1 d.2.2.2.1 d.2.2.2.2.1 d.2.2.2.2.2
end
theorem k_any {X:Cx} {K:yg} (a:X.K=K) (hc:X.calm=true):zm X (.builtin "any") (qgI K):=by subst a;exact call_any hc
end L2
namespace L2
open PySem PySem.Spec PySem.W PyProof.Rows
def KOk {c:Type} (n:Nat) (P:c->Prop):KasT c->Prop
 | .ret a=>P a
 | .ask i j k=>i<n/\j<n/\∀ b,KOk n P (k b)
def PmA (n:Nat) (p:Array Nat):Prop:=p.toList.Perm (List.range n)
section
variable {n:Nat} (h0:0<n)
include h0
end
def Tw (h:Heap) (v:Value):Prop:=∃ (t:Addr) (o:Obj) (x y:Int) (a ty:Tok) (k:Nat),v=.ref t/\h.get? t=some o/\o.cls=.type "tuple"/\o.data=.seq #[.int x a,.int y ty] k
section
variable {prog:Program} {w:World} {A:Around} {E:Value->Shared->Prop} {s:Shared}
end
section
variable {X:Cx} {K:yg}
end
def rDClear:V->List V->Hp->VK->Prop:=fun x vs H Q=>∃ (d:Addr) (kvs:List (Key×V)),x=.ref d/\vs=[]/\H d=some (.dK kvs)/\Q .non (upd H d (.dK []))
theorem mtR_dclear {X:Cx}:MtR X "dict.clear" rDClear:=by
 intro a s f H x xs v us Q I r c h;obtain ⟨d,kvs,rfl,rfl,e,q⟩:=h;cases r;cases c;exact d_clear I e fun s' b=>⟨.non,_,b,rfl,q⟩
end L2
namespace L2
open PySem PySem.Spec PyProof.Rows
def rNeDD:R2:=fun x y H Q=>∃ a b c d,x=.ref a/\y=.ref b/\H a=some (.dK c)/\H b=some (.dK d)/\(∀ p∈c,j5 p.2=true)/\(∀ p∈d,j5 p.2=true)/\Q (.bl (!(c.length==d.length&&qdG d c))) H
def rNeY (K:yg):R2:=fun x y H Q=>qfg K true x y H Q\/rNeDD x y H Q
section
variable {X:Cx} {K:yg}
theorem qfk (l:X.K=K) (m:X.A.units+100<cLine):OpR X (compareOp .NotEq) (rNeY K):=by
 intro c s p H x y u v Q I f g h;rcases h with h | ⟨a,b,ka,kb,rfl,rfl,ha,hb,fa,fb,q⟩
 ·exact qbw l m c s p H x y u v Q I f g h
 ·cases f;cases g;obtain ⟨_,n,r,d,i⟩:=qdZ I.hok ha;obtain ⟨_,o,t,e,j⟩:=qdZ I.hok hb;refine PySem.W.keq_ne n o i j (by omega) (fun _=>qec I (by show X.A.units+1<cLine;omega) e fb d fa) ?_;rw [<- X9 d,<- X9 e];exact ⟨.bl _,H,I,rfl,q⟩
end
end L2
namespace K46
open PySem L2 PyProof.Rows
variable {A:Str->Str->Prop} {C cw dx p x:Addr} {E:XK} {G H H' H0 H1 H2:Hp} {K:W.Frag} {Pd:Str->Prop} {S S':FS} {a b c s t u v y z:Str} {ab:Str×Str} {d lo ol:V} {dn l l' l1 l2 m1 r rs rv rw rz ss wt xs:List Str} {first i j m n:Nat} {g:Str->Option Str} {kps qs tps:List (Str×Str)} {kvs:List (Key×V)} {ns:List Nat} {o:HO} {q q':Nat×Nat} {ts us:List Addr} {ys:List V} {α β:Type}
theorem Sr (H:Hp):L2.Same H H:=L2.Same.refl H
theorem jV {k:Nat} {A:Around} (a:Room k A):A.units+100<cLine:=by have:=a.un;omega
theorem hmR {k:Nat} {A:Around} (a:Room k A) (h:j<=k:=by decide):Room j A:=a.mono h
theorem ur:FnScope ["self","text"] ["self","text"] (qg js):=fS
theorem uB:FnScope ["self","found"] ["self","found"] (qg jN):=fS
local macro_rules | `(tactic| walk_at "w")=>`(tactic| first
 | with_reducible refine vSeq ?_ | with_reducible refine vAsg ?_ | with_reducible refine vAsgS ?_ | with_reducible refine vIfS ?_ | with_reducible refine vRet ?_ | with_reducible refine vNext ?_ | with_reducible refine vC ?_
 | ((with_reducible refine' vVar ?hv ?_);(case hv=>rfl)) | with_reducible refine vOp ?_ | with_reducible refine vChain ?_ | with_reducible refine vNil ?_ | with_reducible refine vCons ?_ | with_reducible refine vCB ?_ | with_reducible refine vCall ?_
 | with_reducible refine vLst ?_ | with_reducible refine vTup ?_ | with_reducible refine vTest ?_ | with_reducible refine vB ?_ | with_reducible refine vNot ?_ | with_reducible refine vAnd ?_ | with_reducible refine vOr ?_
 | with_reducible refine vAndV ?_ | with_reducible refine vOrV ?_ | with_reducible refine vNotV ?_ | with_reducible refine vYes ?_ | with_reducible refine vLeI ?_ | with_reducible refine vLeS ?_ | with_reducible refine vIsB ?_ | with_reducible refine vAddI ?_ | with_reducible refine vSl ?_ | with_reducible refine vNoPart ?_ | with_reducible refine vPart ?_ | with_reducible refine vExI ?_ | with_reducible refine vBM ?_ | with_reducible refine vBM0 ?_ | with_reducible refine vComp ?_ | with_reducible refine vFor ?_ | with_reducible refine vRng1 ?_ | with_reducible refine vAny ?_ | with_reducible refine vGN ?_ | with_reducible refine vI0 ?_ | with_reducible refine vEqI ?_ | with_reducible refine vEqB ?_ | with_reducible refine vEx ?_ | with_reducible refine vDrop ?_ | with_reducible refine vRetN ?_ | with_reducible refine vFldU ?_ | with_reducible refine vSFldU ?_ | with_reducible refine vXMake ?_ | with_reducible refine vMake ?_ | with_reducible refine vMeth ?_ | with_reducible refine vVinit ?_ | with_reducible refine vCallS ?_ | with_reducible refine vRaise ?_ | with_reducible refine vMethS ?_ | with_reducible refine vMakeS ?_ | with_reducible refine vUn ?_ | with_reducible refine vIf ?_ | with_reducible refine vRev ?_ | with_reducible refine vEnum ?_ | with_reducible refine vDGet2 ?_ | with_reducible refine vStep ?_)
local macro_rules | `(tactic| walk_at "v")=>`(tactic| repeat walk_at "w")
local macro_rules | `(tactic| ext)=>`(tactic| walk_at "v")
noncomputable def fAtt:List Str:=["board","partners","rows","parents","bases","rings","waiting","longer"]
noncomputable def qfw (_:Nat):Str:="found"
structure Txt (K:W.Frag) (mg:Str->Option Value) (cc:Nat->Addr) (cw:Addr):Prop where
 b_len:mg "len"=none
 b_int:mg "int"=none
 b_enumerate:mg "enumerate"=none
 b_all:mg "all"=none
 b_max:mg "max"=none
 b_min:mg "min"=none
 b_isinstance:mg "isinstance"=none
 b_bool:mg "bool"=none
 b_str:mg "str"=none
 b_range:mg "range"=none
 b_list:mg "list"=none
 b_tuple:mg "tuple"=none
 b_ValueError:mg "ValueError"=none
 g_LONGEST_NAME:∃ tk,mg "LONGEST_NAME"=some (.int 6 tk)
 g_MOST_PLACES:∃ tk,mg "MOST_PLACES"=some (.int 14 tk)
 g_MOST_TIES:∃ tk,mg "MOST_TIES"=some (.int 30 tk)
 m_NoPlace:mg "NoPlace"=some (.ref (cc 0))
 m_NoPairs:mg "NoPairs"=some (.ref (cc 1))
 m_OnceError:mg "OnceError"=some (.ref (cc 2))
 vinit:VInit K
 xat:∀ i,i<2+1->XAt K (cc i)
 na:∀ i,i<2->NoAttr K (cc i) (qfw i)
 kit:∀ i j,i<2->j<2->W.kitOne K (.ref (cc i)) (.ref (cc j))=some (decide (i=j))
 kitV:∀ i,i<2+1->W.kitOne K (.ref (cc i)) (.type "ValueError")=some true
 mroO:∀ i,i<2->W.mroIn K (cc i) (.ref (cc 2))=some true
 wcl:Cls K cw
 wn:NoAttr K cw "numbers"
 wo:NoAttr K cw "order"
 wr:NoAttr K cw "near"
 m_Web:mg "Web"=some (.ref cw)
 m_Forest:mg "Forest"=some (.ref (cc 9))
 fcl:Cls K (cc 9)
 fa:∀ a∈fAtt,NoAttr K (cc 9) a
 b_zip:mg "zip"=none
 b_any:mg "any"=none
 b_dict:mg "dict"=none
 b_repr:mg "repr"=none
 smod:∃ o,K.lookup sysModules=some o
inductive spOnce (K:W.Frag) (vs:List V) (H:Hp) (Q:VK) (E:XK):Prop|mk (e C:Addr) (y:V) (_:vs=[.ref e,y]) (_:H e=some (XN e C none)) (_:XAt K C) (_:Q .non H)
inductive spX (C:Addr) (fl:Str) (vs:List V) (H:Hp) (Q:VK) (E:XK):Prop|mk (e:Addr) (v:V) (_:vs=[.ref e,v]) (_:H e=some (XN e C none)) (_:∀ dx,H dx=none->Q .non (upd (upd H dx (.xd [(fl,v)])) e (XN e C (some dx))))
theorem raise_done {g:Str} {y:V} (c:XAt K C) (q:∀ dx H',L2.Same H1 H'->H' dx=some (.xd [(g,y)])->E (.ref C) (some dx) H') :
  [y].length<=1000/\∀ x,H1 x=none->spX C g (.ref x::[y]) (upd H1 x (XN x C none)) (fun v H2=>v=.non/\∃ a f dx,(V.ref x)=.ref a/\H2 a=some (XN a f dx)/\XAt K f/\E (.ref f) dx (upd H2 a (XO a f dx))) E0:=by
 refine ⟨by show 1<=1000;decide,fun x h=>⟨x,y,rfl,qb,fun dx d=>⟨rfl,x,C,some dx,rfl,qb,c,q dx _ (fun b o e=>?_) ?_⟩⟩⟩
 ·have nx:b≠x:=fun z=>by rw [z,h] at e;cases e
  have nd:b≠dx:=fun z=>by rw [<- z,qf nx,e] at d;cases d
  rw [qf nx,qf nx,qf nd,qf nx];exact e
 ·have nx:dx≠x:=fun z=>by rw [z,qb] at d;cases d
  rw [qf nx,qf nx,qb]
def Rz (a:Nat->Addr) (H:Hp) (E:XK) (r:Nat×V):Prop:=∀ dx H',L2.Same H H'->H' dx=some (.xd [(qfw r.1,r.2)])->E (.ref (a r.1)) (some dx) H'
section
variable {P:Program} {w:World} {K:W.Frag} {mg:Str->Option Value} {base:Heap} {cc:Nat->Addr} {cw:Addr} {f:Addr} {fd:FuncData}
theorem ok_once (F:Fun K "__init__" "OnceError.__init__" js f fd) (T:Txt K mg cc cw):FnOk P w K mg base CX0 1 f fd ["self","text"] (spOnce K):=by
 refine F.ok ur fun _ _ _ _ H vs Q E b h=>?_
 ·obtain ⟨e,C,y,rfl,a,c,q⟩:=h;refine ⟨_,(qe (qI (k_vinit (K:=K) rfl T.vinit rfl T.b_ValueError zL (qa (pv 0) (qa (pv 1) qd))))),?_⟩;ext;exact ⟨e,C,y,rfl,a,c,q⟩
theorem ok_NoPlace (F:Fun K "__init__" "NoPlace.__init__" jN f fd) (T:Txt K mg cc cw) (c:CMethOk P w K mg base CX0 1 (cc 2) "OnceError" "__init__" ["self","text"] (spOnce K)) :
  FnOk P w K mg base CX0 2 f fd ["self","found"] (spX (cc 0) (qfw 0)):=by
 refine F.ok uB fun _ _ _ _ H vs Q E b h=>?_
 ·obtain ⟨e,v,rfl,a,q⟩:=h;refine ⟨_,(qc (qI (pe_clsmQ c (hmR b) (qa (pv 0) (qa jh qd))))
 (qe (jJ (K:=K) rfl (pv 0) (pv 1) rfl))),?_⟩
  ext;refine ⟨e,_,_,rfl,a,T.xat 0 (by decide),?_⟩;ext;exact .inr ⟨e,_,rfl,a,T.xat 0 (by decide),T.na 0 (by decide),q⟩
theorem uC:FnScope ["thing"] ["thing"] (qg j6):=fS
theorem u5:FnScope ["bits","number"] ["bits","number"] (qg qax):=fS
theorem uv:FnScope ["numbers","thing"] ["numbers","thing"] (qg zo):=fS
theorem K0:FnScope ["numbers","thing","both"] ["numbers","thing"] (qg jt):=fS
theorem qF {l:Addr} (a:L2.Same H H1) (hl:H1 l=none):L2.Same H (upd H1 l o):=fun c u e=>by
 have q:=a c u e;rw [qf (qH q hl)];exact q
theorem qaj {l:Addr} (a:L2.Same H H1) (hl:H l=none):L2.Same H (upd H1 l o):=fun c u e=>by
 rw [qf (qH e hl)];exact a c u e
noncomputable def sg (c:Nat):Bool:=if (!decide (([c]:List Nat)<("a":Str).cps.toList))=true then !decide (("z":Str).cps.toList < [c]) else false
noncomputable def zd (x:Str):Bool:=if 1<=x.length/\x.length<=6 then x.cps.toList.all sg else false
theorem qbZ {x:Str} (h:zd x=true):1<=x.length/\x.length<=6/\x.cps.toList.all sg=true:=by
 unfold zd at h;split at h
 ·rename_i z;exact ⟨z.1,z.2,h⟩
 ·cases h
theorem nameS_len (h:zd s=true):s.length<=6:=(qbZ h).2.1
structure All2 {α β:Type} (R:α->β->Prop) (l:List α) (m:List β):Prop where
 len:l.length=m.length
 at_:∀ (k:Nat) a b,l[k]?=some a->m[k]?=some b->R a b
theorem All2.nil {R:α->β->Prop}:All2 R [] []:=⟨rfl,fun k a b h=>by simp at h⟩
theorem All2.mono {R S:α->β->Prop} {l:List α} {m:List β} (h:All2 R l m) (f:∀ a b,R a b->S a b):All2 S l m:=⟨h.len,fun k a b x y=>f a b (h.at_ k a b x y)⟩
theorem All2.snoc {R:α->β->Prop} {l:List α} {m:List β} {x:α} {y:β} (h:All2 R l m) (r:R x y):All2 R (l++[x]) (m++[y]):=by
 refine ⟨by rw [yt,yt,h.len];rfl,fun k a b c d=>?_⟩;by_cases e:k<l.length
 ·rw [yZ e] at c;rw [yZ (by rw [<- h.len];exact e)] at d;exact h.at_ k a b c d
 ·rw [yJ (by omega)] at c;rw [yJ (by rw [<- h.len];omega)] at d
  have f:k-l.length=0:=by
   have:=(yc.mp c).1;simp at this;omega
  rw [<- h.len] at d;rw [f] at c d;cases c;cases d;exact r
theorem All2.mem {R:α->β->Prop} {l:List α} {m:List β} (h:All2 R l m) {x:α} (c:x∈l):∃ y∈m,R x y:=by
 obtain ⟨k,b,e⟩:=kA c;have a:k<m.length:=by rw [<- h.len];exact b
 exact ⟨m[k],xQ a,h.at_ k x m[k] (by rw [yb b,e]) (yb a)⟩
def PL (H:Hp) (l:Addr) (ts:List Addr) (tps:List (Str×Str)):Prop:=H l=some (.lst (ts.map V.ref))/\All2 (fun t ab=>H t=some (.tup [.str ab.1,.str ab.2])) ts tps
theorem PL.same {l:Addr} (h:PL H l ts tps) (s:L2.Same H H'):PL H' l ts tps:=⟨s _ _ h.1,h.2.mono fun _ _ z=>s _ _ z⟩
inductive spName (vs:List V) (H:Hp) (Q:VK) (E:XK):Prop|mk (x:Str) (_:vs=[.str x]) (_:zd x=true) (_:∀ H',L2.Same H H'->Q (.bl true) H')
theorem ok_name (F:Fun K "is_name" "is_name" j6 f fd) (T:Txt K mg cc cw):FnOk P w K mg base CX0 1 f fd ["thing"] spName:=by
 refine F.ok uC fun _ _ _ _ H vs Q E t h=>?_
 ·obtain ⟨x,rfl,n,q⟩:=h;obtain ⟨u,r,s⟩:=qbZ n;refine ⟨_,(qc (qN (PW.pt (qbQ (q8 (qY (qu (qaw (K:=K) rfl) rfl T.b_isinstance YR (qa (pv 0) (qa (jT (v:=.ty "str") rfl T.b_str boot_str rfl) qd))))) (qaL (q8 (qc8 qeP qeP qh (qu (qai (K:=K) rfl) rfl T.b_len xJ (qa (pv 0) qd)) (qaT rfl T.g_LONGEST_NAME)))))) (qe (qj jF)) qv)
 (qe (qj (qu (qeF (K:=K) rfl rfl) rfl T.b_all boot_all (qa (ji (sc:=qg j6) (XN:=["thing"]) ["sign"] 1 [] rfl rfl rfl (by decide +kernel) rfl (by decide +kernel)
  (qU (K:=K) rfl (pv 0)) (fun _ _ _ _=>(qq (i:=0) (show (["sign"]:List Str).Nodup by decide +kernel) rfl (yK rfl))) jc
  (fun _ _ _ _=>zf)
  (fun _ _ _ _=>(qc7 qeP qeP jh (pv 0) jh))) qd))))),?_⟩
  ext;refine qbx (.inl (.str x)) rfl (zK K "str" (by simp) "str" (by simp)) ?_;ext;refine yq ?_;ext;refine qfM (yi r (by decide)) ?_;ext;refine qQ (fun h1=>?_) fun h1=>absurd (yB (by omega)) h1;ext;refine qQ (fun g=>by simp only [Xn,XG] at g;omega) fun g=>?_;ext;refine comp_str (fun i ys H'=>H'=H/\ys=((x.cps.toList.take i).map sg).map V.bl) ⟨rfl,by simp⟩ (fun i c ys H' hc e=>?_) fun ys H' e=>?_
  ·obtain ⟨rfl,rfl⟩:=e;ext;refine qag ?_;ext
   have hl:(List.map V.bl (List.map sg (List.take i x.cps.toList))).length<sizeLine:=by
    rw [ya,ya,yP];exact qi (yi (kN _ _) (by simpa [Str.length] using (show x.length<=1000 by omega)))
   have a:∀ b,b=sg c->(List.map V.bl (List.map sg (List.take i x.cps.toList)))++[V.bl b]=List.map V.bl (List.map sg (List.take (i+1) x.cps.toList)):=by
    intro b m;have j:x.cps.toList[i]?=some c:=by simpa using hc
    rw [m,yM,j];simp
   refine qQ (fun d=>?_) fun d=>⟨hl,rfl,a _ (by unfold sg;rw [yy d])⟩;ext;exact ⟨hl,rfl,a _ (by unfold sg;rw [yF d])⟩
  ·obtain ⟨rfl,rfl⟩:=e;have p:x.cps.toList.take x.cps.size=x.cps.toList:=by rw [<- xo,yS]
   rw [p];refine ⟨?_,fun l hl=>?_⟩
   ·rw [ya,ya];exact Yc (qi (by simpa [Str.length] using (show x.length<=1000 by omega)))
   ·ext;refine ⟨l,x.cps.toList.map sg,rfl,SqL.of qb,?_⟩;have z:=q _ (qF (Sr H') (o:=.lst ((x.cps.toList.map sg).map V.bl)) hl);rw [kY];rw [<- s] at z;exact z
inductive spBit (vs:List V) (H:Hp) (Q:VK) (E:XK):Prop|mk (b n:Int) (_:vs=[.int b,.int n]) (_:0<=n) (_:Q (.bl (decide (Builtin.bitAnd (b / 2 ^ n.toNat) 1=1))) H)
theorem ok_bit (F:Fun K "has_bit" "has_bit" qax f fd):FnOk P w K mg base CX0 1 f fd ["bits","number"] spBit:=by
 refine F.ok u5 fun _ _ _ _ H vs Q E c h=>?_
 ·obtain ⟨b,n,rfl,a,q⟩:=h;have d:=jV c;refine ⟨_,(qe (qj (jz (zM (K:=K) rfl d) (qx qaM (qx qc5 (pv 0) (pv 1)) qh) qh (qC _)))),?_⟩;ext;refine vI a ?_;ext;refine .inl (.inl (.inl ⟨rfl,rfl,?_⟩));exact q
noncomputable def qbv:List Str->Nat->List (Key×V)
 | [],_=>[]
 | s::r,i=>(.inr s,.int i)::qbv r (i+1)
theorem qcz (y:Str):∀ (ss:List Str) (i:Nat),qbv (ss++[y]) i=qbv ss i++[(.inr y,.int (i+ss.length:Nat))]
 | [],i=>rfl
 | s::r,i=>by
  show (_::qbv (r++[y]) (i+1))=_::(qbv r (i+1)++_);rw [qcz y r (i+1)];have:i+1+r.length=i+(s::r).length:=by simp;omega
  rw [this]
theorem zx:∀ (ss:List Str) (i:Nat),(qbv ss i).length=ss.length
 | [],_=>rfl
 | _::r,i=>congrArg (· + 1) (zx r (i+1))
theorem qbn:∀ {ss:List Str} {i:Nat},y∉ss->jG (qbv ss i) (.inr y:Key)=none
 | [],_,_=>rfl
 | s::r,i,h=>by
  have h1:¬ s=y:=fun e=>h (by rw [e];exact yN);show jG ((.inr s,V.int i)::qbv r (i+1)) _=none;rw [qP (p:=((.inr s:Key),V.int i)) (fun e=>h1 (xk e))];exact qbn fun m=>h (yz _ m)
theorem j7:∀ {ss:List Str} {i:Nat},y∈ss->∃ j,j<ss.length/\ss[j]?=some y/\jG (qbv ss i) (.inr y:Key)=some (.int (i+j:Nat))
 | [],_,h=>by cases h
 | s::r,i,h=>by
  by_cases e:s=y
  ·subst e;exact ⟨0,by simp,rfl,q9 (p:=((.inr s:Key),V.int i)) rfl⟩
  ·rcases yv.mp h with z | z
   ·exact absurd z.symm e
   ·obtain ⟨j,h1,b,c⟩:=j7 (i:=i+1) z;refine ⟨j+1,by simp;omega,by simpa using b,?_⟩;show jG ((.inr s,V.int i)::qbv r (i+1)) _=_;rw [qP (p:=((.inr s:Key),V.int i)) (fun a=>e (xk a)),c];have:i+1+j=i+(j+1):=by omega
    rw [this]
theorem qbo (y:Str) (ss:List Str) (i:Nat):(jG (qbv ss i) (.inr y:Key)).isSome=decide (y∈ss):=by
 by_cases h:y∈ss
 ·obtain ⟨j,_,_,e⟩:=j7 (i:=i) h;rw [e,yB h];rfl
 ·rw [qbn h,yl h];rfl
inductive spPlace (vs:List V) (H:Hp) (Q:VK) (E:XK):Prop|mk (d:Addr) (ss:List Str) (x:Str) (_:vs=[.ref d,.str x]) (_:H d=some (.dK (qbv ss 0))) (_:zd x=true) (_:x∈ss) (_:∀ H',L2.Same H H'->Q (.bl true) H')
theorem ok_place (F:Fun K "is_place" "is_place" zo f fd) (c:DefOk P w K mg base CX0 1 "is_name" ["thing"] spName):FnOk P w K mg base CX0 2 f fd ["numbers","thing"] spPlace:=by
 refine F.ok uv fun _ _ _ _ H vs Q E a h=>?_
 ·obtain ⟨d,ss,x,rfl,e,g,j,q⟩:=h;have i:=jV a;refine ⟨_,(qe (qj (qbC (qm c (hmR a) qz (qa (pv 1) qd)) (qbB (jz (zw (K:=K) rfl i) (pv 1) (pv 0) (by with_unfolding_all rfl)))))),?_⟩;ext;refine ⟨x,rfl,g,fun H1 b=>?_⟩;ext;refine qag ?_;ext;refine .inr (.inl ⟨d,_,rfl,DGet.k (k:=Sum.inr x) (b d _ e),?_⟩);rw [qbo,yB j];exact q H1 b
inductive spTwo (vs:List V) (H:Hp) (Q:VK) (E:XK):Prop|mk (d t:Addr) (ss:List Str) (a b:Str) (_:vs=[.ref d,.ref t]) (_:H d=some (.dK (qbv ss 0))) (_:H t=some (.tup [.str a,.str b])) (_:zd a=true) (_:zd b=true) (_:a∈ss) (_:b∈ss) (_:a≠b) (_:∀ H',L2.Same H H'->Q (.bl true) H')
theorem ok_two (F:Fun K "are_two_places" "are_two_places" jt f fd) (T:Txt K mg cc cw) (o:DefOk P w K mg base CX0 2 "is_place" ["numbers","thing"] spPlace):FnOk P w K mg base CX0 3 f fd ["numbers","thing"] spTwo:=by
 refine F.ok K0 fun _ _ _ _ H vs Q E m h=>?_
 ·obtain ⟨d,t,ss,a,b,rfl,p,c,u,x,r,s,l,q⟩:=h;have g:=jV m;refine ⟨_,(qc (qN (PW.pt (qbQ (q8 (qY (qu (qaw (K:=K) rfl) rfl T.b_isinstance YR (qa (pv 1) (qa (jT (v:=.ty "tuple") rfl T.b_tuple boot_tuple rfl) qd))))) (qaL (qp (qbw (K:=K) rfl g) (qu (qai (K:=K) rfl) rfl T.b_len xJ (qa (pv 1) qd)) qh (qC _))))) (qe (qj jF)) qv)
 (qc (qk (i:=2) K0.nd rfl (yK rfl) (qbC (qm o (hmR m) qz (qa (pv 0) (qa (qr (qt (K:=K) rfl g) (pv 1) qh (fun _ _=>rfl)) qd))) (qbB (qm o (hmR m) qz (qa (pv 0) (qa (qr (qt (K:=K) rfl g) (pv 1) qh (fun _ _=>rfl)) qd))))))
 (qe (qj (qbC (pv 2) (qbB (jz (qbw (K:=K) rfl g) (qr (qt (K:=K) rfl g) (pv 1) qh (fun _ _=>rfl)) (qr (qt (K:=K) rfl g) (pv 1) qh (fun _ _=>rfl)) (qC _)))))))),?_⟩
  ext;refine qbx (.inl (.tup c)) rfl (zK K "tuple" (by simp) "tuple" (by simp)) ?_;ext;refine yq ?_;ext;refine vLenT c ?_;ext;refine .inl ⟨rfl,rfl,?_⟩;ext;refine yq ?_;ext;refine .inl (qbj c rfl ?_);ext;refine ⟨d,ss,a,rfl,p,u,r,fun H1 j=>?_⟩;ext;refine qag ?_;ext;refine .inl (qbj (j _ _ c) rfl ?_);ext;refine ⟨d,ss,b,rfl,j _ _ p,x,s,fun H2 n=>?_⟩;ext;refine qag ?_;ext;refine .inl (qbj (n _ _ (j _ _ c)) rfl ?_);ext;refine .inl (qbj (n _ _ (j _ _ c)) rfl ?_);refine .inl ⟨rfl,rfl,?_⟩;have z:=q H2 (j.trans n);have e:(if true=true then !eqV (V.str a) (V.str b) else eqV (V.str a) (V.str b))=true:=by simp [eqV,l]
  rw [e];exact z
theorem KW:FnScope ["names","numbers","name"] ["names"] (qg zg):=fS
theorem qbp (m j:Nat):decide (Builtin.bitAnd ((m:Int) / 2 ^ (j:Int).toNat) 1=1)=m.testBit j:=by
 rw [XV,Nat.testBit_eq_decide_div_mod_eq];rw [yY];have e:(m:Int) / 2 ^ j=((m / 2 ^ j:Nat):Int):=by rw [Int.natCast_ediv,Xe];rfl
 rw [e]
 congr 1
 apply propext;omega
theorem qdo (m j:Nat):Builtin.bitOr (m:Int) (1*2 ^ (j:Int).toNat)=((m ||| 2 ^ j:Nat):Int):=by
 have e:(1*2 ^ (j:Int).toNat:Int)=((2 ^ j:Nat):Int):=by rw [yY,Kg,Xe];rfl
 rw [e];generalize 2 ^ j=k;have c:Builtin.bitNot (m:Int)=-(m:Int)-1:=rfl;have d:Builtin.bitNot (k:Int)=-(k:Int)-1:=rfl;unfold Builtin.bitOr Builtin.bitAnd;rw [c,d,yl (by omega),yl (by omega)];dsimp only;unfold Builtin.bitNot;have a:(-(-(m:Int)-1)-1).toNat=m:=by omega
 have b:(-(-(k:Int)-1)-1).toNat=k:=by omega
 rw [a,b];omega
def But (x:Addr) (H H':Hp):Prop:=∀ b o,b≠x->H b=some o->H' b=some o
theorem But.refl (x:Addr) (H:Hp):But x H H:=fun _ _ _ e=>e
theorem But.same (a:But x H H1) (b:L2.Same H1 H2):But x H H2:=fun c o n e=>b c o (a c o n e)
theorem But.put (a:But x H H1):But x H (upd H1 x o):=fun c u n e=>by rw [qf n];exact a c u n e
theorem But.new {l:Addr} (a:But x H H1) (hl:H1 l=none):But x H (upd H1 l o):=a.same (qF (Sr H1) hl)
theorem qed {a q:Addr} {xs:List V} {Q:VK} (h:H a=some (.lst xs)) (b:H q=some (.tup [.ty "list",.ty "tuple"])) (k:Q (.bl true) H):qeY K [.ref a,.ref q] H Q:=
 ⟨_,q,_,_,[.type "list",.type "tuple"],true,rfl,.inl (.lst h),b,rfl,rfl,k⟩
inductive spNums (vs:List V) (H:Hp) (Q:VK) (E:XK):Prop|mk (a:Addr) (ss:List Str) (_:vs=[.ref a]) (_:H a=some (.lst (ss.map V.str))) (_:ss.length<=14) (_:ss.Nodup) (_:(∀ s∈ss,zd s=true)) (_:∀ d H',L2.Same H H'->H d=none->H' d=some (.dK (qbv ss 0))->Q (.ref d) H')
theorem ok_nums (F:Fun K "numbers_of" "numbers_of" zg f fd) (T:Txt K mg cc cw) (M:DefOk P w K mg base CX0 1 "is_name" ["thing"] spName) :
  FnOk P w K mg base CX0 4 f fd ["names"] spNums:=by
 refine F.ok KW fun _ _ _ _ H vs Q E G h=>?_
 ·obtain ⟨a,ss,rfl,l,N,r,s,q⟩:=h;have I:=jV G;refine ⟨_,(qc (qN (q8 (qY (qu (qd7 (K:=K) rfl) rfl T.b_isinstance YR (qa (pv 0) (qa (jR (qa (jT (v:=.ty "list") rfl T.b_list Xj rfl) (qa (jT (v:=.ty "tuple") rfl T.b_tuple boot_tuple rfl) qd))) qd))))) (qe jw) qv)
 (qc (qN (qp qeB (qu (qai (K:=K) rfl) rfl T.b_len xJ (qa (pv 0) qd)) (qaT rfl T.g_MOST_PLACES) (qC _)) (qe jw) qv)
 (qc (qk (i:=1) KW.nd rfl (yK rfl) jM)
 (qc (jf yU rfl (qU (K:=K) rfl (pv 0)) (qq (i:=2) KW.nd rfl (yK rfl))
 (qc (qN (q8 (qY (qm M (hmR G) qz (qa (pv 2) qd)))) (qe jw) qv)
 (qc (qN (qp (zw (K:=K) rfl I) (pv 2) (pv 1) (by with_unfolding_all rfl)) (qe jw) qv)
 (qe (jv (qu (qai (K:=K) rfl) rfl T.b_len xJ (qa (pv 1) qd)) (jy (pv 1) (pv 2) (jB I)))))))
 (qe (qj (pv 1))))))),?_⟩
  ext;refine ⟨by show 2<=sizeLine;decide,fun g O=>?_⟩;have m:=qF (Sr H) (o:=.tup [.ty "list",.ty "tuple"]) O;ext;refine qed (m _ _ l) qb ?_;ext;refine yq ?_;ext;refine qbV (m _ _ l) ?_;rw [ya];ext;refine qQ (fun h=>by have:=yk h;omega) fun _=>?_;ext;intro d C;have L:=qF m (o:=.dK []) C;have c:H d=none:=m.free C;ext;refine .inl ⟨⟨_,SqL.of (L _ _ l)⟩,qT (K:=K) (fun i p H'=>∃ A,p=[some (.ref a),some (.ref d),A]/\L2.Same H H'/\H' d=some (.dK (qbv (ss.take i) 0))) ⟨none,rfl,L,qb⟩ (fun i p H' _ e=>by obtain ⟨_,_,z,_⟩:=e;exact SqL.of (z _ _ l)) (fun i y p H' J e=>?_) fun p H' e=>?_⟩
  ·obtain ⟨A,rfl,u,b⟩:=e;rw [yd] at J;obtain ⟨x,t,rfl⟩:=yn.mp J;have R:i<ss.length:=(yc.mp t).1;have j:ss.take (i+1)=ss.take i++[x]:=by rw [yM,t];rfl
   have D:x∉ss.take i:=fun z=>by
    have B:(ss.take (i+1)).Nodup:=r.sublist (XS _ _);rw [j] at B;exact (Yi.mp B).2.2 _ z x (by simp) rfl
   ext;refine ⟨x,rfl,s x (ye t),fun H1 n=>?_⟩;have S:=u.trans n;ext;refine yq ?_;ext;refine .inr (.inl ⟨d,_,rfl,DGet.k (k:=Sum.inr x) (n _ _ b),?_⟩);rw [qbo,yl D];ext;refine yq ?_;ext;refine .inr ⟨_,n _ _ b,?_⟩;ext;refine .inr ⟨d,_,rfl,DPut.k (k:=Sum.inr x) (n _ _ b) (qi (by rw [zx,yP];omega)),?_⟩;refine ⟨_,rfl,qaj S c,?_⟩;rw [qb,qap _ (qbn D),j,qcz,zx];simp only [x0]
  ·obtain ⟨A,rfl,u,b⟩:=e;ext;rw [ya,yS] at b;exact q d H' u c b
theorem uX:FnScope ["self","names","ties"] ["self","names","ties"] (qg zY):=fS
theorem KI:FnScope ["numbers","ties","near","tie","one","other"] ["numbers","ties"] (qg qay):=fS
def qbq (ss:List Str) (ns:List Nat) (c:List (Str×Str)):Prop:=ns.length=ss.length/\(∀ a,ns.getD a 0<2 ^ ss.length)/\∀ a b s t,ss[a]?=some s->ss[b]?=some t->(ns.getD a 0).testBit b=decide ((s,t)∈c\/(t,s)∈c)
theorem qy (h:ss.Nodup) {a b:Nat} (i:ss[a]?=some s) (j:ss[b]?=some s):a=b:=by
 have e:=xA.mp h;obtain ⟨f,c⟩:=yc.mp i;obtain ⟨g,d⟩:=yc.mp j;rcases Nat.lt_trichotomy a b with q | q | q
 ·exact absurd (c.trans d.symm) (e a b f g q)
 ·exact q
 ·exact absurd (d.trans c.symm) (e b a g f q)
theorem bits_zero:qbq ss (List.replicate ss.length 0) []:=by
 have z:∀ a,(List.replicate ss.length 0).getD a 0=0:=fun a=>by
  simp only [List.getD,xO];split<;>rfl
 refine ⟨by simp,fun a=>by rw [z a];exact XB _,fun a b s t c d=>?_⟩;rw [z a];simp
theorem zh {v:Nat} (h:i<ns.length):(ns.set i v).getD j 0=if i=j then v else ns.getD j 0:=by
 simp only [List.getD,List.getElem?_set];by_cases e:i=j
 ·subst e;simp [h]
 ·simp [e]
theorem bits_step {f:List (Str×Str)} (D:qbq ss ns f) (o:ss.Nodup) (d:ss[i]?=some s) (l:ss[j]?=some t) (n:s≠t) :
  qbq ss ((ns.set i (ns.getD i 0 ||| 2 ^ j)).set j (ns.getD j 0 ||| 2 ^ i)) (f++[(s,t)]):=by
 obtain ⟨hl,m,h⟩:=D;have B:i<ns.length:=by rw [hl];exact (yc.mp d).1
 have C:j<ns.length:=by rw [hl];exact (yc.mp l).1
 have F:i≠j:=fun e=>by rw [e,l] at d;cases d;exact n rfl
 have y:i<ss.length:=(yc.mp d).1;have A:j<ss.length:=(yc.mp l).1;refine ⟨by simp [hl],fun a=>?_,fun a b u v g c=>?_⟩
 ·rw [zh (by simpa using C),zh B];split
  ·exact XZ (m _) (Xp (by decide) y)
  ·split
   ·exact XZ (m _) (Xp (by decide) A)
   ·exact m _
 rw [zh (by simpa using C),zh B];have p:=h a b u v g c;have E:∀ P Q:Prop,(P↔Q)->∀ [Decidable P] [Decidable Q],decide P=decide Q:=fun P Q e=>by intro _ _;exact YA.mpr e
 by_cases w:j=a
 ·subst w;rw [l] at g;cases g;rw [yF rfl,X3,p,Y6];by_cases r:i=b
  ·subst r;rw [d] at c;cases c;simp
  ·have vs:v≠s:=fun e=>by subst e;exact r (qy o d c)
   simp only [r,Kh,kK];apply YA.mpr;simp only [yD,yA,Xy];constructor
   ·rintro (z | z)
    ·exact .inl (.inl z)
    ·exact .inr (.inl z)
   ·rintro ((z | ⟨z,_⟩) | (z | ⟨z,_⟩))
    ·exact .inl z
    ·exact absurd z.symm n
    ·exact .inr z
    ·exact absurd z vs
 ·rw [yy w];by_cases q:i=a
  ·subst q;rw [d] at g;cases g;rw [yF rfl,X3,p,Y6];by_cases x:j=b
   ·subst x;rw [l] at c;cases c;simp
   ·have H:v≠t:=fun e=>by subst e;exact x (qy o l c)
    simp only [x,Kh,kK];apply YA.mpr;simp only [yD,yA,Xy];constructor
    ·rintro (z | z)
     ·exact .inl (.inl z)
     ·exact .inr (.inl z)
    ·rintro ((z | ⟨_,z⟩) | (z | ⟨_,z⟩))
     ·exact .inl z
     ·exact absurd z H
     ·exact .inr z
     ·exact absurd z n
  ·rw [yy q,p];have us:u≠s:=fun e=>by subst e;exact q (qy o d g)
   have G:u≠t:=fun e=>by subst e;exact w (qy o l g)
   apply YA.mpr;simp only [yD,yA,Xy];constructor
   ·rintro (z | z)
    ·exact .inl (.inl z)
    ·exact .inr (.inl z)
   ·rintro ((z | ⟨z,_⟩) | (z | ⟨_,z⟩))
    ·exact .inl z
    ·exact absurd z us
    ·exact .inr z
    ·exact absurd z G
noncomputable def zG (ns:List Nat):List V:=ns.map fun (n:Nat)=>.int (n:Int)
theorem jO (h:i<ns.length):(zG ns)[i]?=some (.int (ns.getD i 0:Nat)):=by
 unfold zG;rw [yd,yb h];simp [List.getD,h]
theorem qaW (ns:List Nat) (i m:Nat):(zG ns).set i (.int m)=zG (ns.set i m):=by
 unfold zG;rw [List.map_set]
theorem qcA (k:Nat):(List.replicate k [V.int 0]).flatten=zG (List.replicate k 0):=by
 induction k with
 | zero=>rfl
 | succ k ih=>rw [xp,Xl,ih];rfl
theorem qb0 (h:j<n):ixN n (j:Int)=some j:=by
 unfold ixN;rw [yF (by omega),yF (by omega)];rfl
def UN (x y:Str×Str):Prop:=x≠y/\x≠(y.2,y.1)
structure TGo (ss:List Str) (tps:List (Str×Str)):Prop where
 few:tps.length<=30
 inn:∀ ab∈tps,ab.1∈ss/\ab.2∈ss/\ab.1≠ab.2
 un:tps.Pairwise UN
structure WOk (ss:List Str) (ns:List Nat):Prop where
 len:ns.length=ss.length
 few:ss.length<=14
 nd:ss.Nodup
 lt:∀ a,ns.getD a 0<2 ^ ss.length
 nm:∀ s∈ss,zd s=true
inductive WebAt (cw:Addr) (H:Hp) (x:Addr) (ss:List Str) (ns:List Nat):Prop|mk (dx d ol n:_) (_:H x=some (.ins cw dx (qE "near" (.ref n) (qE "order" (.ref ol) (qE "numbers" (.ref d) []))))) (_:H d=some (.dK (qbv ss 0))) (_:H ol=some (.lst (ss.map V.str))) (_:H n=some (.lst (zG ns))) (_:WOk ss ns)
theorem WebAt.same (h:WebAt cw H x ss ns) (s:L2.Same H H'):WebAt cw H' x ss ns:=by
 obtain ⟨dx,d,ol,n,h1,a,b,c,e⟩:=h;exact ⟨dx,d,ol,n,s _ _ h1,s _ _ a,s _ _ b,s _ _ c,e⟩
inductive WebN (H0:Hp) (cw:Addr) (H:Hp) (x:Addr) (ss:List Str) (ns:List Nat):Prop|mk (dx d ol n:_) (_:H x=some (.ins cw dx (qE "near" (.ref n) (qE "order" (.ref ol) (qE "numbers" (.ref d) []))))) (_:H d=some (.dK (qbv ss 0))) (_:H ol=some (.lst (ss.map V.str))) (_:H n=some (.lst (zG ns))) (_:WOk ss ns) (_:H0 d=none) (_:H0 ol=none) (_:H0 n=none)
theorem WebN.web (h:WebN H0 cw H x ss ns):WebAt cw H x ss ns:=by
 obtain ⟨dx,d,ol,n,h1,a,b,c,e,_⟩:=h;exact ⟨dx,d,ol,n,h1,a,b,c,e⟩
inductive WebP (A:Addr->Prop) (cw:Addr) (H:Hp) (x:Addr) (ss:List Str) (ns:List Nat):Prop|mk (dx d ol n:_) (_:H x=some (.ins cw dx (qE "near" (.ref n) (qE "order" (.ref ol) (qE "numbers" (.ref d) []))))) (_:H d=some (.dK (qbv ss 0))) (_:H ol=some (.lst (ss.map V.str))) (_:H n=some (.lst (zG ns))) (_:WOk ss ns) (_:¬ A x) (_:¬ A d) (_:¬ A ol) (_:¬ A n)
theorem WebP.web {A:Addr->Prop} (h:WebP A cw H x ss ns):WebAt cw H x ss ns:=by
 obtain ⟨dx,d,ol,n,h1,a,b,c,e,_⟩:=h;exact ⟨dx,d,ol,n,h1,a,b,c,e⟩
theorem WebP.keep {A:Addr->Prop} (h:WebP A cw H x ss ns) (k:∀ b o,¬ A b->H b=some o->H' b=some o):WebP A cw H' x ss ns:=by
 obtain ⟨dx,d,ol,n,h1,g,i,j,l,a,c,e,f⟩:=h;exact ⟨dx,d,ol,n,k _ _ a h1,k _ _ c g,k _ _ e i,k _ _ f j,l,a,c,e,f⟩
theorem WebN.apart {A:Addr->Prop} (h:WebN H0 cw H x ss ns) (m:¬ A x) (b:∀ a,A a->H0 a≠none):WebP A cw H x ss ns:=by
 obtain ⟨dx,d,ol,n,h1,g,i,j,l,c,e,f⟩:=h;exact ⟨dx,d,ol,n,h1,g,i,j,l,m,fun z=>b _ z c,fun z=>b _ z e,fun z=>b _ z f⟩
theorem qcB:∀ (ss:List Str) (i:Nat),(qbv ss i).map (fun a=>kV a.1)=ss.map V.str
 | [],_=>rfl
 | s::r,i=>congrArg (V.str s::·) (qcB r (i+1))
inductive spNear (vs:List V) (H:Hp) (Q:VK) (E:XK):Prop|mk (d l:Addr) (ss:List Str) (ts:List Addr) (tps:List (Str×Str)) (_:vs=[.ref d,.ref l]) (_:H d=some (.dK (qbv ss 0))) (_:ss.length<=14) (_:ss.Nodup) (_:(∀ s∈ss,zd s=true)) (_:PL H l ts tps) (_:TGo ss tps) (_:∀ n ns H',L2.Same H H'->H n=none->H' n=some (.lst (zG ns))->qbq ss ns tps->Q (.ref n) H')
theorem ok_near (F:Fun K "near_of" "near_of" qay f fd) (T:Txt K mg cc cw) (KG:DefOk P w K mg base CX0 3 "are_two_places" ["numbers","thing"] spTwo) (KR:DefOk P w K mg base CX0 1 "has_bit" ["bits","number"] spBit) :
  FnOk P w K mg base CX0 4 f fd ["numbers","ties"] spNear:=by
 refine F.ok KI fun _ _ _ _ H vs Q E hr h=>?_
 ·obtain ⟨d,l,ss,ts,tps,rfl,W,aj,af,G,⟨hl,D⟩,Z,q⟩:=h;have j:=jV hr;have L:=D.len;have few:=Z.few;refine ⟨_,(qc (qN (q8 (qY (qu (qd7 (K:=K) rfl) rfl T.b_isinstance YR (qa (pv 1) (qa (jR (qa (jT (v:=.ty "list") rfl T.b_list Xj rfl) (qa (jT (v:=.ty "tuple") rfl T.b_tuple boot_tuple rfl) qd))) qd))))) (qe jw) qv)
 (qc (qN (qp qeB (qu (qai (K:=K) rfl) rfl T.b_len xJ (qa (pv 1) qd)) (qaT rfl T.g_MOST_TIES) (qC _)) (qe jw) qv)
 (qc (qk (i:=2) KI.nd rfl (yK rfl) (qx qdY (qJ (qa qh qd)) (qu (qai (K:=K) rfl) rfl T.b_len xJ (qa (pv 0) qd))))
 (qc (jf yU rfl (qU (K:=K) rfl (pv 1)) (qq (i:=3) KI.nd rfl (yK rfl))
 (qc (qN (q8 (qY (qm KG (hmR hr) qz (qa (pv 0) (qa (pv 3) qd))))) (qe jw) qv)
 (qc (qk (i:=4) KI.nd rfl (yK rfl) (qr (qt (K:=K) rfl j) (pv 0) (qr (qt (K:=K) rfl j) (pv 3) qh (fun _ _=>rfl)) (fun _ _=>rfl)))
 (qc (qk (i:=5) KI.nd rfl (yK rfl) (qr (qt (K:=K) rfl j) (pv 0) (qr (qt (K:=K) rfl j) (pv 3) qh (fun _ _=>rfl)) (fun _ _=>rfl)))
 (qc (qN (qY (qm KR (hmR hr) qz (qa (qr (qt (K:=K) rfl j) (pv 2) (pv 4) (fun _ _=>rfl)) (qa (pv 5) qd)))) (qe jw) qv)
 (qc (jv (qx qeA (qr (qt (K:=K) rfl j) (pv 2) (pv 4) (fun _ _=>rfl)) (qx qao qh (pv 5))) (jy (pv 2) (pv 4) (jB j)))
 (qe (jv (qx qeA (qr (qt (K:=K) rfl j) (pv 2) (pv 5) (fun _ _=>rfl)) (qx qao qh (pv 4))) (jy (pv 2) (pv 5) (jB j))))))))))
 (qe (qj (pv 2))))))),?_⟩
  ext;refine ⟨by show 2<=sizeLine;decide,fun g aa=>?_⟩;have s0:=qF (Sr H) (o:=.tup [.ty "list",.ty "tuple"]) aa;ext;refine qed (s0 _ _ hl) qb ?_;ext;refine yq ?_;ext;refine qbV (s0 _ _ hl) ?_;rw [ya];ext;refine qQ (fun h=>by have:=yk h;omega) fun _=>?_;ext;refine ⟨by show 1<=sizeLine;decide,fun z ah=>?_⟩;have s1:=qF s0 (o:=.lst [.int 0]) ah;ext;refine .inr ⟨_,s1 _ _ W,?_⟩;ext;rw [zx];refine ⟨z,_,_,rfl,rfl,qb,by omega,by omega,by show 1*_<=sizeLine;rw [yY];exact Yc (qi (by omega)),fun n hn=>?_⟩;rw [yY,qcA];have s2:=qF s1 (o:=.lst (zG (List.replicate ss.length 0))) hn;have n0:H n=none:=s1.free hn;ext;refine .inl ⟨⟨_,SqL.of (s2 _ _ hl)⟩,qT (K:=K) (fun i Y H'=>∃ v3 v4 v5 ns,Y=[some (.ref d),some (.ref l),some (.ref n),v3,v4,v5]/\L2.Same H H'/\H' n=some (.lst (zG ns))/\qbq ss ns (tps.take i))
   ⟨none,none,none,_,rfl,s2,qb,bits_zero⟩ (fun i Y H' _ I=>by obtain ⟨_,_,_,_,_,z,_⟩:=I;exact SqL.of (z _ _ hl)) (fun i y Y H' hy I=>?_) fun Y H' I=>?_⟩
  ·obtain ⟨v3,v4,v5,ns,rfl,N,A,a⟩:=I;rw [yd] at hy;obtain ⟨t,ht,rfl⟩:=yn.mp hy;have ac:i<ts.length:=(yc.mp ht).1;obtain ⟨⟨p,r⟩,u⟩:∃ ab,tps[i]?=some ab:=⟨_,yb (by rw [<- L];exact ac)⟩;have U:=D.at_ i t _ ht u;obtain ⟨m1,X,c⟩:=Z.inn _ (ye u);dsimp only at U m1 X c;have J:tps.take (i+1)=tps.take i++[(p,r)]:=by rw [yM,u];rfl
   have ag:¬ ((p,r)∈tps.take i\/(r,p)∈tps.take i):=fun z=>by
    have h3:(tps.take (i+1)).Pairwise UN:=Z.un.sublist (XS _ _);rw [J] at h3;have h4:=(List.pairwise_append.mp h3).2.2;rcases z with z | z
    ·exact (h4 _ z (p,r) (by simp)).1 rfl
    ·exact (h4 _ z (p,r) (by simp)).2 rfl
   obtain ⟨C,ad,b,R⟩:=j7 (i:=0) m1;obtain ⟨B,ae,s,S⟩:=j7 (i:=0) X;rw [x0] at R S;have ai:C≠B:=fun e=>by rw [e,s] at b;cases b;exact c rfl
   have m:C<ns.length:=by rw [a.1];exact ad
   have M:B<ns.length:=by rw [a.1];exact ae
   ext;refine ⟨d,t,ss,p,r,rfl,N _ _ W,N _ _ U,G _ m1,G _ X,m1,X,c,fun H1 t1=>?_⟩;have O:=N.trans t1;have x:=t1 _ _ A;ext;refine yq ?_;ext;refine .inl (qbj (O _ _ U) rfl ?_);refine .inr ⟨d,.int C,rfl,?_,?_⟩
   ·have:=DGet.k (k:=Sum.inr p) (O _ _ W);rw [R] at this;exact this
   ext;refine .inl (qbj (O _ _ U) rfl ?_);refine .inr ⟨d,.int B,rfl,?_,?_⟩
   ·have:=DGet.k (k:=Sum.inr r) (O _ _ W);rw [S] at this;exact this
   ext;refine .inl (za x (qo (jO m)) ?_);ext;refine ⟨_,_,rfl,by omega,?_⟩;rw [qbp,a.2.2 C B p r b s,yl ag];ext;refine yq ?_;ext;refine .inl (za x (qo (jO m)) ?_);ext;refine vI ⟨by omega,by omega,by decide⟩ ?_;ext;rw [qdo];refine .inl (qdF x (qb0 (by unfold zG;rw [ya];exact m)) ?_);rw [qaW];ext;have e2:(ns.set C (ns.getD C 0 ||| 2 ^ B)).getD B 0=ns.getD B 0:=by rw [zh m,yy ai]
   refine .inl (za qb (qo (jO (by simpa using M))) ?_);ext;refine vI ⟨by omega,by omega,by decide⟩ ?_;ext;rw [qdo,e2];refine .inl (qdF qb (qb0 (by unfold zG;rw [ya];simpa using M)) ?_);rw [qaW];refine ⟨_,_,_,_,rfl,qaj (qaj O n0) n0,qb,?_⟩;rw [J];exact bits_step a af b s c
  ·obtain ⟨v3,v4,v5,ns,rfl,N,A,a⟩:=I;ext;rw [ya,L,yS] at a;exact q n _ H' N n0 A a
inductive spWeb (cw:Addr) (vs:List V) (H:Hp) (Q:VK) (E:XK):Prop|mk (x dx a l:Addr) (ss:List Str) (ts:List Addr) (tps:List (Str×Str)) (_:vs=[.ref x,.ref a,.ref l]) (_:H x=some (.ins cw dx [])) (_:H a=some (.lst (ss.map V.str))) (_:ss.length<=14) (_:ss.Nodup) (_:(∀ s∈ss,zd s=true)) (_:PL H l ts tps) (_:TGo ss tps) (_:∀ ns H',But x H H'->WebN H cw H' x ss ns->qbq ss ns tps->Q .non H')
theorem PL.but {l:Addr} {fs:List (Str×V)} (h:PL H l ts tps) (a:H x=some (.ins C dx fs)) (b:But x H H'):PL H' l ts tps:=
 ⟨b _ _ (qan h.1 a (by intro z;cases z)) h.1,h.2.mono fun t ab e=>b _ _ (qan e a (by intro z;cases z)) e⟩
theorem ok_web (F:Fun K "__init__" "Web.__init__" zY f fd) (T:Txt K mg cc cw) (uV:DefOk P w K mg base CX0 4 "numbers_of" ["names"] spNums) (X:DefOk P w K mg base CX0 4 "near_of" ["numbers","ties"] spNear) :
  FnOk P w K mg base CX0 5 f fd ["self","names","ties"] (spWeb cw):=by
 refine F.ok uX fun _ _ _ _ H vs Q E N h=>?_
 ·obtain ⟨x,dx,a,l,ss,ts,tps,rfl,U,ha,j,nd,p,M,hg,q⟩:=h;have hu:=jV N;refine ⟨_,(qc (jJ (K:=K) rfl (pv 0) (qm uV (hmR N) qz (qa (pv 1) qd)) rfl)
 (qc (jJ (K:=K) rfl (pv 0) (j3 (qbY (K:=K) rfl rfl) rfl T.b_list Xj (qa (qA (K:=K) rfl (pv 0) rfl) qd)) rfl)
 (qe (jJ (K:=K) rfl (pv 0) (qm X (hmR N) qz (qa (qA (K:=K) rfl (pv 0) rfl) (qa (pv 2) qd))) rfl)))),?_⟩
  ext;refine ⟨a,ss,rfl,ha,j,nd,p,fun d H1 W L R=>?_⟩;have Y:=(But.refl x H).same W;have A:=W _ _ U;have r:d≠x:=qan R A (by intro z;cases z);ext;refine .inl ⟨x,cw,dx,[],rfl,A,T.wcl,T.wn,by decide,?_⟩;have J:=Y.put (o:=.ins cw dx (qE "numbers" (.ref d) []));have g:upd H1 x (.ins cw dx (qE "numbers" (.ref d) [])) d=some (.dK (qbv ss 0)):=by rw [qf r];exact R
  have c:upd H1 x (.ins cw dx (qE "numbers" (.ref d) [])) x=_:=qb;generalize upd H1 x (.ins cw dx (qE "numbers" (.ref d) []))=H2 at J g c;ext;refine .inl ⟨x,cw,dx,_,.ref d,rfl,c,T.wcl,T.wn,by rw [qB,yF rfl],?_⟩;ext;refine .inr (.inl ⟨d,_,rfl,g,fun ol s=>?_⟩);rw [qcB];have G:ol≠x:=fun e=>by subst e;rw [c] at s;cases s
  have Z:=J.new (o:=.lst (ss.map V.str)) s
  have y:H ol=none:=by
   cases q':H ol with
   | none=>rfl
   | some o'=>rw [J ol o' G q'] at s;cases s
  have O:d≠ol:=qH g s;ext;refine .inl ⟨x,cw,dx,_,rfl,(by rw [qf G.symm];exact c),T.wcl,T.wo,Yo (ju _ _ _) (by decide),?_⟩;have D:=Z.put (o:=.ins cw dx (qE "order" (.ref ol) (qE "numbers" (.ref d) [])));have m:upd (upd H2 ol (.lst (ss.map V.str))) x (.ins cw dx (qE "order" (.ref ol) (qE "numbers" (.ref d) []))) d=some (.dK (qbv ss 0)):=by rw [qf r,qf O];exact g
  have v:upd (upd H2 ol (.lst (ss.map V.str))) x (.ins cw dx (qE "order" (.ref ol) (qE "numbers" (.ref d) []))) ol=some (.lst (ss.map V.str)):=by rw [qf G];exact qb
  have i:upd (upd H2 ol (.lst (ss.map V.str))) x (.ins cw dx (qE "order" (.ref ol) (qE "numbers" (.ref d) []))) x=_:=qb;generalize upd (upd H2 ol (.lst (ss.map V.str))) x (.ins cw dx (qE "order" (.ref ol) (qE "numbers" (.ref d) [])))=H3 at D m v i;ext;refine .inl ⟨x,cw,dx,_,.ref d,rfl,i,T.wcl,T.wn,by rw [qB,yy (by decide +kernel),qB,yF rfl],?_⟩;ext;refine ⟨d,l,ss,ts,tps,rfl,m,j,nd,p,M.but U D,hg,fun n ns H4 I t S b=>?_⟩;have B:=I _ _ i;have C:n≠x:=qan S B (by intro z;cases z);ext;refine .inl ⟨x,cw,dx,_,rfl,B,T.wcl,T.wr,Yo (ju _ _ _) (Yo (Nat.succ_le_succ (ju _ _ _)) (by decide)),?_⟩
  have u:H n=none:=by
   cases q':H n with
   | none=>rfl
   | some o'=>rw [D n o' C q'] at t;cases t
  exact q ns _ (D.same I).put ⟨dx,d,ol,n,qb,by rw [qf r];exact I _ _ m,by rw [qf G];exact I _ _ v,by rw [qf C];exact S,⟨b.1,j,nd,b.2.1,p⟩,L,y,u⟩ b
theorem uQ:FnScope ["self"] ["self"] (qg zi):=fS
theorem K3:FnScope ["self","thing"] ["self","thing"] (qg jk):=fS
theorem K4:FnScope ["self","place"] ["self","place"] (qg jl):=fS
theorem uR:FnScope ["self","place"] ["self","place"] (qg zj):=fS
theorem ul:FnScope ["self","place"] ["self","place"] (qg jm):=fS
theorem uw:FnScope ["self","one","other","bits"] ["self","one","other"] (qg zZ):=fS
theorem uD:FnScope ["self","bits"] ["self","bits"] (qg jq):=fS
theorem jK {n:V}:(qE "near" n (qE "order" ol (qE "numbers" d []))).lookup ("numbers":Str)=some d:=by
 rw [qB,yy (by decide +kernel),qB,yy (by decide +kernel),qB,yF rfl]
theorem qb1 {n:V}:(qE "near" n (qE "order" ol (qE "numbers" d []))).lookup ("order":Str)=some ol:=by
 rw [qB,yy (by decide +kernel),qB,yF rfl]
theorem lk_near {n:V}:(qE "near" n (qE "order" ol (qE "numbers" d []))).lookup ("near":Str)=some n:=by
 rw [qB,yF rfl]
theorem j8 {f:Str} {n:V} (h:(f=="near"||f=="order"||f=="numbers")=false):(qE "near" n (qE "order" ol (qE "numbers" d []))).lookup f=none:=by
 simp only [Bool.or_eq_false_iff,Yx] at h;rw [qB,yy h.1.1,qB,yy h.1.2,qB,yy h.2];rfl
noncomputable def inB:List Str->Nat->Nat->List Str
 | [],_,_=>[]
 | s::r,i,b=>if b.testBit i=true then s::inB r (i+1) b else inB r (i+1) b
theorem qaX (y:Str) (b:Nat):∀ (l:List Str) (k:Nat),inB (l++[y]) k b=inB l k b++(if b.testBit (k+l.length)=true then [y] else [])
 | [],k=>by simp [inB]
 | s::r,k=>by
  have a:=qaX y b r (k+1);have e:k+1+r.length=k+(s::r).length:=by simp;omega
  rw [e] at a;simp only [kP,inB,a];split<;>simp
theorem qaJ (b:Nat):∀ (l:List Str) (k:Nat),(inB l k b).length<=l.length
 | [],_=>yh _
 | s::r,k=>by
  have a:=qaJ b r (k+1);simp only [inB];split
  ·simp;omega
  ·simp;omega
inductive spHas (cw:Addr) (vs:List V) (H:Hp) (Q:VK) (E:XK):Prop|mk (x:Addr) (ss:List Str) (ns:List Nat) (y:Str) (_:vs=[.ref x,.str y]) (_:WebAt cw H x ss ns) (_:y∈ss) (_:∀ H',L2.Same H H'->Q (.bl true) H')
inductive spNum (cw:Addr) (vs:List V) (H:Hp) (Q:VK) (E:XK):Prop|mk (x:Addr) (ss:List Str) (ns:List Nat) (y:Str) (j:Nat) (_:vs=[.ref x,.str y]) (_:WebAt cw H x ss ns) (_:ss[j]?=some y) (_:∀ H',L2.Same H H'->Q (.int (j:Nat)) H')
inductive spBB (cw:Addr) (vs:List V) (H:Hp) (Q:VK) (E:XK):Prop|mk (x:Addr) (ss:List Str) (ns:List Nat) (y:Str) (j:Nat) (_:vs=[.ref x,.str y]) (_:WebAt cw H x ss ns) (_:ss[j]?=some y) (_:∀ H',L2.Same H H'->Q (.int (ns.getD j 0:Nat)) H')
inductive spNIn (cw:Addr) (vs:List V) (H:Hp) (Q:VK) (E:XK):Prop|mk (x:Addr) (ss:List Str) (ns:List Nat) (b:Nat) (_:vs=[.ref x,.int b]) (_:WebAt cw H x ss ns) (_:∀ l,H l=none->Q (.ref l) (upd H l (.lst ((inB ss 0 b).map V.str))))
inductive spBs (cw:Addr) (vs:List V) (H:Hp) (Q:VK) (E:XK):Prop|mk (x:Addr) (ss:List Str) (ns:List Nat) (y:Str) (j:Nat) (_:vs=[.ref x,.str y]) (_:WebAt cw H x ss ns) (_:ss[j]?=some y) (_:∀ H',L2.Same H H'->∀ l,H' l=none->Q (.ref l) (upd H' l (.lst ((inB ss 0 (ns.getD j 0)).map V.str))))
inductive spTied (cw:Addr) (vs:List V) (H:Hp) (Q:VK) (E:XK):Prop|mk (x:Addr) (ss:List Str) (ns:List Nat) (y z:Str) (j i:Nat) (_:vs=[.ref x,.str y,.str z]) (_:WebAt cw H x ss ns) (_:ss[j]?=some y) (_:ss[i]?=some z) (_:∀ H',L2.Same H H'->Q (.bl ((ns.getD j 0).testBit i)) H')
inductive spPls (cw:Addr) (vs:List V) (H:Hp) (Q:VK) (E:XK):Prop|mk (x:Addr) (ss:List Str) (ns:List Nat) (_:vs=[.ref x]) (_:WebAt cw H x ss ns) (_:∀ l,H l=none->Q (.ref l) (upd H l (.lst (ss.map V.str))))
theorem ok_has (F:Fun K "has_place" "Web.has_place" jk f fd) (T:Txt K mg cc cw) (b:DefOk P w K mg base CX0 2 "is_place" ["numbers","thing"] spPlace):FnOk P w K mg base CX0 3 f fd ["self","thing"] (spHas cw):=by
 refine F.ok K3 fun _ _ _ _ H vs Q E e h=>?_
 ·obtain ⟨x,ss,ns,y,rfl,⟨dx,d,ol,n,g,c,j,i,hw⟩,a,q⟩:=h;refine ⟨_,(qe (qj (qm b (hmR e) qz (qa (qA (K:=K) rfl (pv 0) rfl) (qa (pv 1) qd))))),?_⟩;ext;refine .inl ⟨x,cw,dx,_,.ref d,rfl,g,T.wcl,T.wn,jK,?_⟩;ext;exact ⟨d,ss,y,rfl,c,hw.nm _ a,a,q⟩
theorem ok_num (F:Fun K "number_of" "Web.number_of" jl f fd) (T:Txt K mg cc cw) (o:MethOk P w K mg base CX0 3 cw "has_place" ["self","thing"] (spHas cw)):FnOk P w K mg base CX0 4 f fd ["self","place"] (spNum cw):=by
 refine F.ok K4 fun _ _ _ _ H vs Q E e h=>?_
 ·obtain ⟨x,ss,ns,y,j,rfl,c,b,q⟩:=h;obtain ⟨dx,d,ol,n,g,r,v,u,hw⟩:=id c;have l:=ye b;have s:=jV e;refine ⟨_,(qc (qN (q8 (qY (qD o (hmR e) (pv 0) (qa (pv 1) qd)))) (qe jw) qv)
 (qe (qj (qr (qt (K:=K) rfl s) (qA (K:=K) rfl (pv 0) rfl) (pv 1) (fun _ _=>rfl))))),?_⟩
  ext;refine ⟨x,dx,_,rfl,g,j8 (by decide +kernel),?_⟩;ext;refine ⟨x,ss,ns,y,rfl,c,l,fun H1 a=>?_⟩;ext;refine yq ?_;obtain ⟨i,t,p,m⟩:=j7 (i:=0) l;rw [x0,qy hw.nd p b] at m;ext;refine .inl ⟨x,cw,dx,_,.ref d,rfl,a _ _ g,T.wcl,T.wn,jK,?_⟩;ext;refine .inr ⟨d,.int j,rfl,?_,q H1 a⟩;have:=DGet.k (k:=Sum.inr y) (a _ _ r);rw [m] at this;exact this
theorem ok_bb (F:Fun K "bits_beside" "Web.bits_beside" jm f fd) (T:Txt K mg cc cw) (i:MethOk P w K mg base CX0 4 cw "number_of" ["self","place"] (spNum cw)):FnOk P w K mg base CX0 5 f fd ["self","place"] (spBB cw):=by
 refine F.ok ul fun _ _ _ _ H vs Q E c h=>?_
 ·obtain ⟨x,ss,ns,y,j,rfl,b,a,q⟩:=h;obtain ⟨dx,d,ol,n,e,o,p,l,hw⟩:=id b;have m:=jV c;refine ⟨_,(qe (qj (qr (qt (K:=K) rfl m) (qA (K:=K) rfl (pv 0) rfl) (qD i (hmR c) (pv 0) (qa (pv 1) qd)) (fun _ _=>rfl)))),?_⟩;ext;refine .inl ⟨x,cw,dx,_,.ref n,rfl,e,T.wcl,T.wr,lk_near,?_⟩;ext;refine ⟨x,dx,_,rfl,e,j8 (by decide +kernel),?_⟩;ext;refine ⟨x,ss,ns,y,j,rfl,b,a,fun H1 g=>?_⟩;exact .inl (za (g _ _ l) (qo (jO (by rw [hw.len];exact (yc.mp a).1))) (q H1 g))
theorem ok_nin (F:Fun K "names_in" "Web.names_in" jq f fd) (T:Txt K mg cc cw) (A:DefOk P w K mg base CX0 1 "has_bit" ["bits","number"] spBit):FnOk P w K mg base CX0 2 f fd ["self","bits"] (spNIn cw):=by
 refine F.ok uD fun _ _ _ _ H vs Q E u h=>?_
 ·obtain ⟨x,ss,ns,b,rfl,⟨dx,d,ol,n,v,D,t,L,hw⟩,q⟩:=h;have I:=jV u;refine ⟨_,(qe (qj (ji (sc:=qg jq) (XN:=["self","bits"]) ["name","bits","self"] 1 [1,0] rfl rfl rfl (by decide +kernel) rfl (by decide +kernel)
  (qU (K:=K) rfl (qA (K:=K) rfl (pv 0) rfl)) (fun _ _ _ _=>(qq (i:=0) (show (["name","bits","self"]:List Str).Nodup by decide +kernel) rfl (yK rfl))) jc
  (fun _ _ _ _=>(jr (qY (qm A (hmR u) qz (qa (pv 1) (qa (qr (qt (K:=K) rfl I) (qA (K:=K) rfl (pv 2) rfl) (pv 0) (fun _ _=>rfl)) qd))))))
  (fun _ _ _ _=>(pv 0))))),?_⟩
  ext;refine .inl ⟨x,cw,dx,_,.ref ol,rfl,v,T.wcl,T.wo,qb1,?_⟩;refine .inl ⟨⟨_,SqL.of t⟩,qZ (K:=K) (fun i ys H'=>H'=H/\ys=(inB (ss.take i) 0 b).map V.str) ⟨rfl,by simp [inB]⟩ (fun i ys H' _ e=>by rw [e.1];exact SqL.of t) (fun i y ys H' r e=>?_) fun ys H' e=>?_⟩
  ·obtain ⟨rfl,rfl⟩:=e;have G:i<ss.length:=by simpa using (yc.mp r).1
   have c:ss[i]?=some ss[i]:=yb G;generalize ss[i]=s at c;have B:y=.str s:=by rw [yd,c] at r;cases r;rfl
   subst B;obtain ⟨j,J,C,z⟩:=j7 (i:=0) (ye c);rw [x0] at z;have p:j=i:=qy hw.nd C c;subst p;have g:ss.take (j+1)=ss.take j++[s]:=by rw [yM,c];rfl
   have a:(ss.take j).length=j:=by rw [yP];omega
   ext;refine .inl ⟨x,cw,dx,_,.ref d,rfl,v,T.wcl,T.wn,jK,?_⟩;ext;refine .inr ⟨d,.int j,rfl,?_,?_⟩
   ·have:=DGet.k (k:=Sum.inr s) D;rw [z] at this;exact this
   ext;refine ⟨_,_,rfl,by omega,?_⟩;rw [qbp];ext
   have few:((inB (ss.take j) 0 b).map V.str).length<sizeLine:=by
    rw [ya];exact qi (yi (qaJ _ _ _) (by rw [a];have:=hw.few;omega))
   refine qQ (fun o=>?_) fun o=>?_
   ·ext;refine ⟨few,rfl,?_⟩;rw [g,qaX,a,x0,yF o];simp
   ·refine ⟨rfl,?_⟩;rw [g,qaX,a,x0,yy o];simp
  ·obtain ⟨rfl,rfl⟩:=e;have m:ss.take (ss.map V.str).length=ss:=by rw [ya,yS]
   rw [m];refine ⟨?_,fun l hl=>q l hl⟩;rw [ya];exact Yc (qi (yi (qaJ _ _ _) (by have:=hw.few;omega)))
theorem ok_bs (F:Fun K "beside" "Web.beside" zj f fd) (T:Txt K mg cc cw) (g:MethOk P w K mg base CX0 5 cw "bits_beside" ["self","place"] (spBB cw)) (l:MethOk P w K mg base CX0 2 cw "names_in" ["self","bits"] (spNIn cw)):FnOk P w K mg base CX0 6 f fd ["self","place"] (spBs cw):=by
 refine F.ok uR fun _ _ _ _ H vs Q E b h=>?_
 ·obtain ⟨x,ss,ns,y,j,rfl,a,i,q⟩:=h;obtain ⟨dx,d,ol,n,c,_⟩:=id a;refine ⟨_,(qe (qj (qD l (hmR b) (pv 0) (qa (qD g (hmR b) (pv 0) (qa (pv 1) qd)) qd)))),?_⟩;ext;refine ⟨x,dx,_,rfl,c,j8 (by decide +kernel),?_⟩;ext;refine ⟨x,dx,_,rfl,c,j8 (by decide +kernel),?_⟩;ext;refine ⟨x,ss,ns,y,j,rfl,a,i,fun H1 e=>?_⟩;ext;exact ⟨x,ss,ns,_,rfl,a.same e,q H1 e⟩
theorem ok_tied (F:Fun K "tied" "Web.tied" zZ f fd) (T:Txt K mg cc cw) (g:MethOk P w K mg base CX0 5 cw "bits_beside" ["self","place"] (spBB cw)) (m:MethOk P w K mg base CX0 4 cw "number_of" ["self","place"] (spNum cw))
  (l:DefOk P w K mg base CX0 1 "has_bit" ["bits","number"] spBit):FnOk P w K mg base CX0 6 f fd ["self","one","other"] (spTied cw):=by
 refine F.ok uw fun _ _ _ _ H vs Q E b h=>?_
 ·obtain ⟨x,ss,ns,y,z,j,i,rfl,a,p,o,q⟩:=h;obtain ⟨dx,d,ol,n,e,_⟩:=id a;refine ⟨_,(qc (qk (i:=3) uw.nd rfl (yK rfl) (qD g (hmR b) (pv 0) (qa (pv 1) qd)))
 (qe (qj (qm l (hmR b) qz (qa (pv 3) (qa (qD m (hmR b) (pv 0) (qa (pv 2) qd)) qd)))))),?_⟩
  ext;refine ⟨x,dx,_,rfl,e,j8 (by decide +kernel),?_⟩;ext;refine ⟨x,ss,ns,y,j,rfl,a,p,fun H1 c=>?_⟩;ext;refine ⟨x,dx,_,rfl,c _ _ e,j8 (by decide +kernel),?_⟩;ext;refine ⟨x,ss,ns,z,i,rfl,a.same c,o,fun H2 r=>?_⟩;ext;refine ⟨_,_,rfl,by omega,?_⟩;rw [qbp];exact q H2 (c.trans r)
theorem ok_pls (F:Fun K "places" "Web.places" zi f fd) (T:Txt K mg cc cw):FnOk P w K mg base CX0 1 f fd ["self"] (spPls cw):=by
 refine F.ok uQ fun _ _ _ _ H vs Q E g h=>?_
 ·obtain ⟨x,ss,ns,rfl,⟨dx,d,ol,n,b,c,a,e,hw⟩,q⟩:=h;refine ⟨_,(qe (qj (j3 (qbY (K:=K) rfl rfl) rfl T.b_list Xj (qa (qA (K:=K) rfl (pv 0) rfl) qd)))),?_⟩;ext;refine .inl ⟨x,cw,dx,_,.ref ol,rfl,b,T.wcl,T.wo,qb1,?_⟩;ext;exact .inl ⟨ol,_,rfl,.inl (SqL.of a),q⟩
inductive Rch (ns:List Nat) (i:Nat):Nat->Prop
 | zero:Rch ns i i
 | step {a b:Nat} (h:Rch ns i a) (t:(ns.getD a 0).testBit b=true):Rch ns i b
inductive spPc (vs:List V) (H:Hp) (Q:VK) (E:XK):Prop|mk (n:Addr) (ns:List Nat) (i:Nat) (_:vs=[.ref n,.int i]) (_:H n=some (.lst (zG ns))) (_:i<ns.length) (_:ns.length<=14) (_:(∀ a,ns.getD a 0<2 ^ ns.length)) (_:∀ (b:Nat) (H':Hp),L2.Same H H'->(∀ c,b.testBit c=true↔Rch ns i c)->Q (.int b) H')
noncomputable def isRep (ns:List Nat) (k:Nat):Bool:=@decide (∀ j,j<k->¬ Rch ns j k) (Classical.propDecidable _)
noncomputable def reps (ns:List Nat) (n:Nat):List Nat:=(List.range n).filter (isRep ns)
open Classical in
noncomputable def compS (ss:List Str) (ns:List Nat) (k:Nat):List Str:=ss.filter fun s=>decide (Rch ns k (ss.idxOf s))
theorem qcC (b:ss.Nodup) (h:ss[i]?=some s):ss.idxOf s=i:=by
 have a:s∈ss:=ye h;have hl:ss.idxOf s<ss.length:=Yv a;exact qy b (by rw [yb hl,YY]) h
theorem qaa (f:ss.Nodup) (b:Nat):inB ss 0 b=ss.filter fun s=>b.testBit (ss.idxOf s):=by
 have e:∀ k,k<=ss.length->inB (ss.take k) 0 b=(ss.take k).filter fun s=>b.testBit (ss.idxOf s):=fun k=>by
  induction k with
  | zero=>intro _;simp [inB]
  | succ k ih =>
   intro h;have a:ss[k]?=some ss[k]:=yb (by omega);generalize ss[k]=g at a;have d:ss.take (k+1)=ss.take k++[g]:=by rw [yM,a];rfl
   have c:(ss.take k).length=k:=by rw [yP];omega
   rw [d,qaX,Yp,ih (by omega),c,x0]
   congr 1
   rw [yT,YK,qcC f a]
 have:=e ss.length (yh _)
 rwa [yS] at this
def PcAt (H H':Hp) (l:Addr) (a:Addr) (b:List Str):Prop:=H a=none/\a≠l/\H' a=some (.lst (b.map V.str))
inductive spPcs (cw:Addr) (vs:List V) (H:Hp) (Q:VK) (E:XK):Prop|mk (x:Addr) (ss:List Str) (ns:List Nat) (_:vs=[.ref x]) (_:WebAt cw H x ss ns) (_:∀ (l:Addr) (ls:List Addr) (H':Hp),L2.Same H H'->H l=none->H' l=some (.lst (ls.map V.ref))->All2 (PcAt H H' l) ls ((reps ns ss.length).map (compS ss ns))->Q (.ref l) H')
theorem KO:FnScope ["self","ties","one","other"] ["self"] (qg qab):=fS
theorem qee (a:ss.Nodup) {b:Nat} (h:s∈inB ss 0 b):s∈ss/\b.testBit (ss.idxOf s)=true:=by
 rw [qaa a] at h;exact yp.mp h
noncomputable def qfl (ss:List Str) (ns:List Nat) (i:Nat):List (Str×Str):=((inB ss 0 (ns.getD i 0)).filter fun o=>decide (i<ss.idxOf o)).map fun o=>(ss.getD i "",o)
noncomputable def qR (ss:List Str) (ns:List Nat) (i:Nat):List (Str×Str):=(List.range i).flatMap (qfl ss ns)
def PrAt (H H':Hp) (l:Addr) (t:Addr) (ab:Str×Str):Prop:=H t=none/\t≠l/\H' t=some (.tup [.str ab.1,.str ab.2])
theorem PrAt.same {l t:Addr} (h:PrAt H H1 l t ab) (s:L2.Same H1 H2):PrAt H H2 l t ab:=⟨h.1,h.2.1,s _ _ h.2.2⟩
inductive spTs (cw:Addr) (vs:List V) (H:Hp) (Q:VK) (E:XK):Prop|mk (x:Addr) (ss:List Str) (ns:List Nat) (_:vs=[.ref x]) (_:WebAt cw H x ss ns) (_:∀ (l:Addr) (ts:List Addr) (H':Hp),L2.Same H H'->H l=none->H' l=some (.lst (ts.map V.ref))->ts.length<=196->All2 (PrAt H H' l) ts (qR ss ns ss.length)->Q (.ref l) H')
theorem ok_ts (F:Fun K "ties" "Web.ties" qab f fd) (T:Txt K mg cc cw) (KB:MethOk P w K mg base CX0 6 cw "beside" ["self","place"] (spBs cw)):FnOk P w K mg base CX0 7 f fd ["self"] (spTs cw):=by
 refine F.ok KO fun _ _ _ _ H vs Q E hr h=>?_
 ·obtain ⟨x,ss,ns,rfl,hW,q⟩:=h;have hu:=jV hr;obtain ⟨dx,d,ol,n,hx,hd,ho,hn,hw⟩:=id hW;have few:=hw.few
  have Z:∀ (H1:Hp) (y:Str) (i:Nat),L2.Same H H1->ss[i]?=some y->DGet H1 d (.str y) (some (.int (i:Nat))):=fun H1 y i R D=>by
   obtain ⟨j,hj,gj,vj⟩:=j7 (i:=0) (ye D);rw [x0] at vj;have af:j=i:=qy hw.nd gj D;subst af;have:=DGet.k (k:=Sum.inr y) (R _ _ hd);rw [vj] at this;exact this
  refine ⟨_,(qc (qk (i:=1) KO.nd rfl (yK rfl) (qJ qd))
 (qc (jf yU rfl (qU (K:=K) rfl (qA (K:=K) rfl (pv 0) rfl)) (qq (i:=2) KO.nd rfl (yK rfl))
 (qe (jf yU rfl (qU (K:=K) rfl (qD KB (hmR hr) (pv 0) (qa (pv 2) qd))) (qq (i:=3) KO.nd rfl (yK rfl))
 (qe (qN (qp qdN (qr (qt (K:=K) rfl hu) (qA (K:=K) rfl (pv 0) rfl) (pv 2) (fun _ _=>rfl)) (qr (qt (K:=K) rfl hu) (qA (K:=K) rfl (pv 0) rfl) (pv 3) (fun _ _=>rfl)) (qC _)) (qe (qI (qbI (K:=K) rfl yR Ye Yg qM (pv 1) (qa (jR (qa (pv 2) (qa (pv 3) qd))) qd)))) qv)))))
 (qe (qj (pv 1))))),?_⟩
  ext;refine ⟨by decide,fun l hl=>?_⟩;have s0:=qF (Sr H) (o:=.lst []) hl;ext;refine .inl ⟨x,cw,dx,_,.ref ol,rfl,s0 _ _ hx,T.wcl,T.wo,qb1,?_⟩;refine .inl ⟨⟨_,SqL.of (s0 _ _ ho)⟩,qT (K:=K) (fun i J H'=>∃ (ts:List Addr) (x2 U:Option V),J=[some (.ref x),some (.ref l),x2,U]/\L2.Same H H'/\H' l=some (.lst (ts.map V.ref))/\ts.length<=i*14/\All2 (PrAt H H' l) ts (qR ss ns i))
   ⟨[],none,none,rfl,s0,qb,by simp,All2.nil⟩ (fun i J H' _ B=>by obtain ⟨_,_,_,_,z,_⟩:=B;exact SqL.of (z _ _ ho)) (fun i y J H1 hy B=>?_) fun J H1 B=>?_⟩
  ·obtain ⟨ts,x2,U,rfl,R,G,s,c⟩:=B;have hi:i<ss.length:=by simpa using (yc.mp hy).1
   have D:ss[i]?=some ss[i]:=yb hi;generalize ss[i]=p at D;have ey:y=.str p:=by rw [yd,D] at hy;cases hy;rfl
   subst ey;have al:=hw.nm p (ye D);ext;refine ⟨x,dx,_,rfl,R _ _ hx,j8 (by decide +kernel),?_⟩;ext;refine ⟨x,ss,ns,p,i,rfl,hW.same R,D,fun H2 s2 b X=>?_⟩;have s3:=R.trans s2;have s4:=qF s3 (o:=.lst ((inB ss 0 (ns.getD i 0)).map V.str)) X;have S:=qF s2 (o:=.lst ((inB ss 0 (ns.getD i 0)).map V.str)) X;have eb:upd H2 b (.lst ((inB ss 0 (ns.getD i 0)).map V.str)) b=some (.lst ((inB ss 0 (ns.getD i 0)).map V.str)):=qb;have ah:b≠l:=fun e=>by rw [e,s2 _ _ G] at X;cases X
   have aj:H b=none:=s3.free X;refine .inl ⟨⟨_,SqL.of qb⟩,?_⟩;generalize upd H2 b (.lst ((inB ss 0 (ns.getD i 0)).map V.str))=H3 at s4 S eb ⊢;have L:∀ o,o∈inB ss 0 (ns.getD i 0)->o∈ss:=fun o h=>(qee hw.nd h).1;have ad:=qaJ (ns.getD i 0) ss 0;have r:qfl ss ns i=((inB ss 0 (ns.getD i 0)).filter fun o=>decide (i<ss.idxOf o)).map fun o=>(ss.getD i "",o):=rfl;have aa:ss.getD i ""=p:=by simp [List.getD,D]
   rw [aa] at r;generalize ak:inB ss 0 (ns.getD i 0)=bs at eb L ad r ⊢;refine qT (K:=K) (fun k J H'=>∃ (us:List Addr) (U:Option V),J=[some (.ref x),some (.ref l),some (.str p),U]/\L2.Same H H'/\H' b=some (.lst (bs.map V.str))/\H' l=some (.lst (us.map V.ref))/\us.length<=i*14+k/\All2 (PrAt H H' l) us (qR ss ns i++((bs.take k).filter fun o=>decide (i<ss.idxOf o)).map fun o=>(p,o)))
    ⟨ts,_,rfl,s4,eb,S _ _ G,s,by simpa using c.mono fun _ _ h=>h.same S⟩ (fun k J H' _ B=>by obtain ⟨_,_,_,_,z,_⟩:=B;exact SqL.of z) (fun k u J H5 N B=>?_) fun J H5 B=>?_
   ·obtain ⟨us,U,rfl,I,C,g,v,a⟩:=B;have hk:k<bs.length:=by simpa using (yc.mp N).1
    have gk:bs[k]?=some bs[k]:=yb hk;generalize bs[k]=m at gk;have eu:u=.str m:=by rw [yd,gk] at N;cases N;rfl
    subst eu;have ag:=L m (ye gk);have ae:=Yv ag;have ac:ss[ss.idxOf m]?=some m:=by rw [yb ae,YY]
    have Y:bs.take (k+1)=bs.take k++[m]:=by rw [yM,gk];rfl
    ext;refine .inl ⟨x,cw,dx,_,.ref d,rfl,I _ _ hx,T.wcl,T.wn,jK,?_⟩;ext;refine .inr ⟨d,.int i,rfl,Z H5 p i I D,?_⟩;ext;refine .inl ⟨x,cw,dx,_,.ref d,rfl,I _ _ hx,T.wcl,T.wn,jK,?_⟩;ext;refine .inr ⟨d,.int (ss.idxOf m:Nat),rfl,Z H5 m _ I ac,?_⟩;ext;refine qQ (fun M=>?_) fun M=>?_
    ·have A:i<ss.idxOf m:=by have:=yk M;omega
     ext;refine ⟨.inl ⟨rfl,_,SqL.of g⟩,?_⟩;ext;refine ⟨by show 2<=sizeLine;decide,fun t ht=>?_⟩;have O:l≠t:=qH g ht;have ai:b≠t:=qH C ht;have s6:=qF (Sr H5) (o:=.tup [.str p,.str m]) ht;ext;refine ⟨l,_,_,rfl,rfl,by rw [qf O];exact g,by rw [ya];exact qi (by have:i*14<=14*14:=Nat.mul_le_mul_right 14 (by omega);omega),?_⟩;refine ⟨us++[t],_,rfl,qaj (I.trans s6) hl,by rw [qf ah,qf ai];exact C,by rw [qb,yE];rfl,by rw [yt];show us.length+1<=_;omega,?_⟩;rw [Y,Yp,yE,<- Ym];have W:([m].filter fun o=>decide (i<ss.idxOf o)).map (fun o=>(p,o))=[(p,m)]:=by simp [A]
     rw [W];refine All2.snoc (a.mono fun t' ab h=>⟨h.1,h.2.1,?_⟩) ⟨I.free ht,O.symm,?_⟩
     ·rw [qf h.2.1];exact s6 _ _ h.2.2
     ·rw [qf O.symm,qb]
    ·have A:¬ i<ss.idxOf m:=fun h=>M (yB (by omega));refine ⟨us,_,rfl,I,C,g,by omega,?_⟩;have W:([m].filter fun o=>decide (i<ss.idxOf o)).map (fun o=>(p,o))=[]:=by simp [A]
     rw [Y,Yp,yE,W,Yd];exact a
   ·obtain ⟨us,U,rfl,I,C,g,v,a⟩:=B;rw [ya,yS] at a;rw [ya] at v;refine ⟨us,_,_,rfl,I,g,by omega,?_⟩;unfold qR at a ⊢;rw [Xf,Xw];have W:[i].flatMap (qfl ss ns)=(bs.filter fun o=>decide (i<ss.idxOf o)).map fun o=>(p,o):=by rw [<- r];simp
    rw [W];exact a
  ·obtain ⟨ts,x2,U,rfl,R,G,s,c⟩:=B;rw [ya] at s c;ext;exact q l ts H1 R hl G (by have:ss.length*14<=14*14:=Nat.mul_le_mul_right 14 few;omega) c
def Box (H:Hp) (p:Addr):Prop:=∃ a b c:Int,H p=some (.lst [.int a,.int b,.int c])
def BB (p:Addr) (H H':Hp):Prop:=(∀ b o,b≠p->H b=some o->H' b=some o)/\Box H' p
inductive spTake (vs:List V) (H:Hp) (Q:VK) (E:XK):Prop|mk (p:Addr) (m:Int) (_:vs=[.ref p,.int m]) (_:Box H p) (_:0<m) (_:m<1073741824) (_:∀ (r:Int) (H':Hp),0<=r->r<m->BB p H H'->Q (.int r) H')
inductive spCell (K:W.Frag) (vs:List V) (H:Hp) (Q:VK) (E:XK):Prop|mk (a:Addr) (ns:List Int) (k:Int) (_:vs=[.ref a,.int k]) (_:SqL K H a (ns.map V.int)) (_:0<=k) (_:k<1000) (_:∀ i:Int,Q (.int i) H)
inductive spBox (vs:List V) (H:Hp) (Q:VK) (E:XK):Prop|mk (i:Int) (_:vs=[.int i]) (_:∀ (p:Addr) (a b c:Int),H p=none->Q (.ref p) (upd H p (.lst [.int a,.int b,.int c])))
noncomputable def NewH (H H':Hp):Hp:=fun a=>match H a with | none=>H' a | some _=>none
theorem zq:∀ {l m:List Str},l.Nodup->(∀ x∈l,x∈m)->l.length<=m.length
 | [],_,_,_=>YI _
 | x::r,m,hn,h=>by
  obtain ⟨h1,c⟩:=yo.mp hn;have a:=h x yN;have d:=zq (l:=r) (m:=m.erase x) c fun y b=>(ki (fun e=>h1 (by rw [<- e];exact b))).mpr (h y (yz _ b));rw [xj a] at d;have:0<m.length:=xt a;simp only [yC];omega
theorem qef (c:Str) (ss:List Str):inV (.str c) (ss.map V.str)=decide (c∈ss):=by
 unfold inV;rw [Kj,Yw,YZ,yQ];constructor
 ·rintro ⟨y,a,e⟩;have:y=c:=eq_of_beq e;rw [<- this];exact a
 ·intro h;exact ⟨c,h,xv c⟩
theorem flat_strs (ss:List Str):(ss.map V.str).all j5=true:=by rw [kY];exact Yz.mpr fun _ _=>rfl
inductive spFresh (vs:List V) (H:Hp) (Q:VK) (E:XK):Prop|mk (l:Addr) (ss:List Str) (_:vs=[.ref l]) (_:H l=some (.lst (ss.map V.str))) (_:ss.length<=14) (_:∀ (x:Str) (H':Hp),L2.Same H H'->zd x=true->x∉ss->Q (.str x) H')
noncomputable def signs:List Str:=("abcdefghijklmno":Str).cps.toList.map fun c=>⟨#[c]⟩
theorem slice_ix (k n:Nat):Builtin.Str.strSliceIndices none (some (k:Int)) 1 n=List.range (min k n):=by
 unfold Builtin.Str.strSliceIndices sliceRange;simp only [show (1:Int)>0 by decide,Xz];rw [yy (show ¬ ((k:Int)<0) by omega)];have a:max 0 (min (k:Int) n)=((min k n:Nat):Int):=by omega
 rw [a];have b:(fun (j:Nat)=>((0:Int)+1*(j:Int)).toNat)=id:=by funext j;show _=j;omega
 rw [b,List.map_id]
 congr 1
 split
 ·rw [Int.ediv_one];omega
 ·omega
theorem qeg (a:Array Nat):∀ m,m<=a.size->(List.range m).filterMap (a[·]?)=a.toList.take m
 | 0,_=>rfl
 | m+1,h=>by
  rw [Xf,List.filterMap_append,qeg a m (by omega),yM]
  congr 1
  have e:a[m]?=some a[m]:=xB (by omega);have b:a.toList[m]?=some a[m]:=by rw [xz];exact e
  rw [b,Xs,e];rfl
theorem qaK (z:Str) (k:Nat):(Txt.slice z none (some (k:Int))).cps.toList=z.cps.toList.take k:=by
 unfold Txt.slice;rw [slice_ix];have hz:z.length=z.cps.toList.length:=by simp [Str.length]
 split
 ·rename_i h
  rw [YS] at h;have:min k z.length=z.length:=by simpa using h
  rw [Y5 (by omega)]
 ·show (List.filterMap _ _).toArray.toList=_;rw [qeg z.cps (min k z.length) (kN _ _)];show z.cps.toList.take (min k z.length)=_;by_cases a:k<=z.length
  ·rw [Ka a]
  ·rw [kR (by omega),Y5 (by omega),Y5 (by omega)]
theorem qaz (a b:Str):(a++b).cps.toList=a.cps.toList++b.cps.toList:=by
 show (a.cps++b.cps).toList=_;exact Array.toList_append
theorem qdp:∀ {xs:List Str},(∀ x∈xs,x.cps.toList.all sg=true)->(Str.join "" xs).cps.toList.all sg=true
 | [],_=>rfl
 | [x],h=>h x (by simp)
 | x::y::r,h=>by
  have e:Str.join "" (x::y::r)=x++""++Str.join "" (y::r):=rfl;rw [e,qaz,qaz,ku,ku,h x (by simp),qdp fun z hz=>h z (yz _ hz)]
  decide +kernel
theorem qfT {c:Nat} (h:97<=c) (b:c<=122):sg c=true:=by
 have a:∀ i,i<26->sg (97+i)=true:=by decide +kernel
 have:=a (c-97) (by omega)
 rwa [show 97+(c-97)=c by omega] at this
theorem join_len (h:∀ x∈xs,x.length=1):(Txt.join "" xs).length=xs.length:=by
 have e:Txt.join "" xs=Str.join "" xs:=Yk.mp (join_plain_closes "" xs);rw [e]
 cases xs with
 | nil=>rfl
 | cons a l =>
  rw [len_join_cons]
  have b:∀ l:List Str,(∀ x∈l,x.length=1)->(l.map (·.length)).sum=l.length:=by
   intro l
   induction l with
   | nil=>intro _;rfl
   | cons a l ih =>
    intro h;rw [YG,List.sum_cons,h a yN,ih fun x c=>h x (yz _ c),yC];omega
  have z:("":Str).length=0:=by decide +kernel
  rw [b _ h,z];omega
theorem sum_ones (h:∀ x∈xs,x.length=1):(xs.map (·.length)).sum=xs.length:=by
 induction xs with
 | nil=>rfl
 | cons a l ih =>
  rw [YG,List.sum_cons,h a yN,ih fun x b=>h x (yz _ b),yC];omega
def Signs (p:Addr) (H:Hp) (i:Nat) (ys:List V) (H':Hp):Prop:=BB p H H'/\∃ xs:List Str,ys=xs.map V.str/\xs.length=i/\∀ x∈xs,x.length=1/\x.cps.toList.all sg=true
noncomputable def L26:Str:="abcdefghijklmnopqrstuvwxyz"
theorem qe2 {i:Int} (b:0<=i) (h1:i<26):atI L26.cps.toList i=some (97+i.toNat):=by
 obtain ⟨n,rfl⟩:=Int.eq_ofNat_of_zero_le b;have a:∀ n,n<26->L26.cps.toList[n]?=some (97+n):=by decide +kernel
 rw [yY];exact qo (a n (by omega))
theorem qaY {x:Str} {l:List Nat} (e:x.cps.toList=l) (h1:1<=l.length) (a:l.length<=6) (h:l.all sg=true):zd x=true:=by
 have hl:x.length=l.length:=by rw [<- e];simp [Str.length]
 unfold zd;rw [yF ⟨by omega,by omega⟩,e];exact h
theorem nodup_key (h:∀ (i j:Nat) (s:Str),ss[i]?=some s->ss[j]?=some s->i=j):ss.Nodup:=by
 refine xA.mpr fun i j a c b e=>?_;have:=h i j ss[j] (by rw [yb a,e]) (yb c);omega
def NL (p:Addr) (H':Hp) (l:Addr) (ss:List Str):Prop:=H' l=some (.lst (ss.map V.str))/\l≠p
structure NOk (ss:List Str):Prop where
 few:ss.length<=14
 nd:ss.Nodup
 nm:∀ s∈ss,zd s=true
def PrT (p:Addr) (H:Hp) (t:Addr) (ab:Str×Str):Prop:=t≠p/\H t=some (.tup [.str ab.1,.str ab.2])
def TL (p:Addr) (H:Hp) (l:Addr) (ts:List Addr) (tps:List (Str×Str)):Prop:=H l=some (.lst (ts.map V.ref))/\l≠p/\All2 (PrT p H) ts tps
structure TOk (ss:List Str) (tps:List (Str×Str)):Prop where
 few:tps.length<=30
 ok:∀ ab∈tps,∃ j k:Nat,j<k/\ss[j]?=some ab.1/\ss[k]?=some ab.2
 nd:tps.Nodup
inductive spTies (vs:List V) (H:Hp) (Q:VK) (E:XK):Prop|mk (p n:Addr) (ss:List Str) (_:vs=[.ref p,.ref n]) (_:Box H p) (_:NL p H n ss) (_:NOk ss) (_:∀ (l:Addr) (ts:List Addr) (tps:List (Str×Str)) (H':Hp),BB p H H'->H l=none->TL p H' l ts tps->TOk ss tps->Q (.ref l) H')
def Shuf (tps d:List (Str×Str)):Prop:=∃ c,d.Perm c/\All2 (fun a b=>b=a\/b=(a.2,a.1)) tps c
inductive spShuf (vs:List V) (H:Hp) (Q:VK) (E:XK):Prop|mk (p l:Addr) (ts:List Addr) (tps:List (Str×Str)) (_:vs=[.ref p,.ref l]) (_:Box H p) (_:TL p H l ts tps) (_:tps.length<=30) (_:∀ (l':Addr) (us:List Addr) (ups:List (Str×Str)) (H':Hp),BB p H H'->H l'=none->TL p H' l' us ups->Shuf tps ups->Q (.ref l') H')
theorem pair_eqD {a b:Addr} {s' t':Str} (g:H b=some (.tup [.str s',.str t'])) (f:H a=some (.tup [.str s,.str t])):EqD K H 1 (.ref b) (.ref a) (decide ((s',t')=(s,t))):=by
 by_cases e:b=a
 ·subst e;rw [g] at f;cases f;rw [yB rfl];exact .self
 ·have z:=EqT.tup (K:=K) (H:=H) (n:=0) (e:=fun j=>if j=0 then eqV (.str s') (.str s) else eqV (.str t') (.str t)) (SqT.of g) (SqT.of f) fun j x y c d=>by
   match j,c,d with
   | 0,c,d=>cases c;cases d;exact .flat rfl rfl
   | 1,c,d=>cases c;cases d;exact .flat rfl rfl
  have h:((List.range (min [V.str s',V.str t'].length [V.str s,V.str t].length)).all (fun j=>if j=0 then eqV (.str s') (.str s) else eqV (.str t') (.str t))&&[V.str s',V.str t'].length==[V.str s,V.str t].length)=decide ((s',t')=(s,t)):=by
   show ((s'==s)&&((t'==t)&&true)&&true)=_;rw [Yw];simp
  rw [h] at z;exact .deep z e
noncomputable def qdH (H:Hp) (z:V):Option (Str×Str):=match z with
 | .ref t=>(match H t with
  | some (.tup [.str a,.str b])=>some (a,b)
  | _=>none)
 | _=>none
theorem qb2 {t:Addr} (h:H t=some (.tup [.str a,.str b])):qdH H (.ref t)=some (a,b):=by
 unfold qdH;dsimp only;rw [h]
theorem any_in (h:All2 (fun t ab=>H t=some (.tup [.str ab.1,.str ab.2])) ts tps) (st:Str×Str):((ts.map V.ref).any fun z=>decide (qdH H z=some st))=decide (st∈tps):=by
 rw [Yw,YZ,yQ];constructor
 ·rintro ⟨z,hz,e⟩;obtain ⟨t,f,rfl⟩:=Yb.mp hz;obtain ⟨ab,b,r⟩:=h.mem f;have e:=yk e;rw [qb2 r] at e;cases e;exact b
 ·intro d;obtain ⟨k,c,e⟩:=kA d;have a:k<ts.length:=by rw [h.len];exact c
  have r:=h.at_ k ts[k] tps[k] (yb a) (yb c);refine ⟨.ref ts[k],Yb.mpr ⟨_,xQ a,rfl⟩,yB ?_⟩;rw [qb2 r,e]
theorem pl_in {l a:Addr} {Q:VK} (h:PL H l ts tps) (d:H a=some (.tup [.str s,.str t])) (q:Q (.bl (decide ((s,t)∈tps))) H):qex K false (.ref a) (.ref l) H Q:=by
 refine .inr (.inr ⟨l,ts.map V.ref,fun z=>decide (qdH H z=some (s,t)),1,rfl,SqL.of h.1,by decide,fun z hz=>?_,?_⟩)
 ·obtain ⟨b,f,rfl⟩:=Yb.mp hz;obtain ⟨ab,_,r⟩:=h.2.mem f;have e:=pair_eqD (K:=K) r d
  have c:decide (qdH H (.ref b)=some (s,t))=decide ((ab.1,ab.2)=(s,t)):=by
   rw [qb2 r];apply YA.mpr;rw [Option.some.injEq]
  show EqD K H 1 (.ref b) (.ref a) (decide (qdH H (.ref b)=some (s,t)));rw [c];exact e
 ·rw [any_in h.2];exact q
theorem zy {y:V} (a:(ss.map V.str)[i]?=some y):∃ s,ss[i]?=some s/\y=.str s:=by
 rw [yd] at a
 cases h:ss[i]? with
 | none=>rw [h] at a;cases a
 | some s=>rw [h] at a;cases a;exact ⟨s,rfl,rfl⟩
def Adj (ss:List Str) (ns:List Nat) (tps:List (Str×Str)):Prop:=∀ a b s t,ss[a]?=some s->ss[b]?=some t->((ns.getD a 0).testBit b=true↔((s,t)∈tps\/(t,s)∈tps))
theorem K5:FnScope ["web","thing","paired","tie"] ["web","thing"] (qg zA):=fS
theorem uJ:FnScope ["self","thing"] ["self","thing"] (qg jW):=fS
noncomputable def qb3 (a:List Str):List (Key×V):=a.map fun s=>(.inr s,.bl true)
theorem zN (y:Str):∀ a:List Str,(jG (qb3 a) (.inr y:Key)).isSome=decide (y∈a)
 | []=>rfl
 | s::r=>by
  by_cases e:s=y
  ·subst e;show (jG (((.inr s:Key),V.bl true)::qb3 r) _).isSome=_;rw [yB (by simp)];simp [jG]
  ·show (jG (((.inr s:Key),V.bl true)::qb3 r) _).isSome=_;rw [qP (p:=((.inr s:Key),V.bl true)) (fun z=>e (xk z)),zN y r];apply YA.mpr;simp [Yh e]
theorem qb4 {a:List Str} (h:y∉a):zc (qb3 a) (.inr y:Key) (.bl true)=qb3 (a++[y]):=by
 have:jG (qb3 a) (.inr y:Key)=none:=by
  have:=zN y a;rw [yl h] at this;exact Option.isNone_iff_eq_none.mp (by rw [<- Option.not_isSome,this];rfl)
 rw [qap _ this];unfold qb3;rw [yE];rfl
noncomputable def qw (qs:List (Str×Str)):List Str:=qs.flatMap fun q=>[q.1,q.2]
noncomputable def prK (qs:List (Str×Str)):List (Key×V):=qs.flatMap fun q=>[(.inr q.1,.str q.2),(.inr q.2,.str q.1)]
noncomputable def pt:List (Str×Str)->Str->Option Str
 | [],_=>none
 | q::r,s=>if q.1=s then some q.2 else if q.2=s then some q.1 else pt r s
theorem jL (s:Str):∀ qs,jG (prK qs) (.inr s:Key)=(pt qs s).map V.str
 | []=>rfl
 | q::r=>by
  show jG (((.inr q.1:Key),V.str q.2)::((.inr q.2:Key),V.str q.1)::prK r) _=(pt (q::r) s).map V.str;unfold pt;by_cases h1:q.1=s
  ·rw [q9 (p:=((.inr q.1:Key),V.str q.2)) (congrArg Sum.inr h1),yF h1];rfl
  ·rw [qP (p:=((.inr q.1:Key),V.str q.2)) (fun z=>h1 (xk z)),yy h1];by_cases a:q.2=s
   ·rw [q9 (p:=((.inr q.2:Key),V.str q.1)) (congrArg Sum.inr a),yF a];rfl
   ·rw [qP (p:=((.inr q.2:Key),V.str q.1)) (fun z=>a (xk z)),yy a,jL s r]
theorem pt_none:∀ {qs:List (Str×Str)},pt qs s=none↔s∉qw qs
 | []=>by simp [pt,qw]
 | q::r=>by
  have e:qw (q::r)=q.1::q.2::qw r:=rfl;rw [e];unfold pt;by_cases h1:q.1=s
  ·rw [yF h1];simp [h1]
  ·rw [yy h1];by_cases a:q.2=s
   ·rw [yF a];simp [a]
   ·rw [yy a,pt_none];simp only [yv,Kk];exact ⟨fun z=>⟨Yh h1,Yh a,z⟩,fun z=>z.2.2⟩
structure PGo (ss:List Str) (tps qs:List (Str×Str)):Prop where
 inn:∀ q∈qs,(q∈tps\/(q.2,q.1)∈tps)/\q.1∈ss/\q.2∈ss/\q.1≠q.2
 nd:(qw qs).Nodup
 few:qs.length<=30
theorem qak (qs:List (Str×Str)):(qw qs).length=2*qs.length:=by
 induction qs with
 | nil=>rfl
 | cons q r ih=>show (q.1::q.2::qw r).length=_;simp only [yC];omega
theorem zO (qs:List (Str×Str)) (q:Str×Str):qw (qs++[q])=qw qs++[q.1,q.2]:=by
 unfold qw;rw [Xw];rfl
theorem PGo.new (g:PGo ss tps qs) (h:qs[i]?=some ab):qs.take (i+1)=qs.take i++[ab]/\(qw (qs.take i++[ab])).Nodup/\ab.1∉qw (qs.take i)/\ab.2∉qw (qs.take i):=by
 have b:qs.take (i+1)=qs.take i++[ab]:=by rw [yM,h];rfl
 have a:(qw (qs.take i++[ab])).Nodup:=by
  rw [<- b];have:qw qs=qw (qs.take (i+1))++qw (qs.drop (i+1)):=by unfold qw;rw [<- Xw,List.take_append_drop]
  have e:=g.nd;rw [this] at e;exact (Yi.mp e).1
 have c:=a;rw [zO] at c;have d:=(Yi.mp c).2.2;exact ⟨b,a,fun z=>d _ z ab.1 (by simp) rfl,fun z=>d _ z ab.2 (by simp) rfl⟩
inductive spHt (cw:Addr) (vs:List V) (H:Hp) (Q:VK) (E:XK):Prop|mk (x t:Addr) (ss:List Str) (ns:List Nat) (tps:List (Str×Str)) (ab:Str×Str) (_:vs=[.ref x,.ref t]) (_:WebAt cw H x ss ns) (_:Adj ss ns tps) (_:H t=some (.tup [.str ab.1,.str ab.2])) (_:(ab∈tps\/(ab.2,ab.1)∈tps)) (_:ab.1∈ss) (_:ab.2∈ss) (_:ab.1≠ab.2) (_:∀ H',L2.Same H H'->Q (.bl true) H')
inductive spAp (cw:Addr) (vs:List V) (H:Hp) (Q:VK) (E:XK):Prop|mk (x l:Addr) (ss:List Str) (ns:List Nat) (us:List Addr) (tps qs:List (Str×Str)) (_:vs=[.ref x,.ref l]) (_:WebAt cw H x ss ns) (_:Adj ss ns tps) (_:PL H l us qs) (_:PGo ss tps qs) (_:∀ H',L2.Same H H'->Q (.bl true) H')
theorem ok_ht (F:Fun K "has_tie" "Web.has_tie" jW f fd) (T:Txt K mg cc cw) (z:DefOk P w K mg base CX0 3 "are_two_places" ["numbers","thing"] spTwo) (G:MethOk P w K mg base CX0 6 cw "tied" ["self","one","other"] (spTied cw)):FnOk P w K mg base CX0 7 f fd ["self","thing"] (spHt cw):=by
 refine F.ok uJ fun _ _ _ _ H vs Q E g h=>?_
 ·obtain ⟨x,t,ss,ns,tps,ab,rfl,r,A,n,c,m1,l,e,q⟩:=h;have u:=jV g;obtain ⟨y,m,ol,I,s,d,C,B,hw⟩:=id r;refine ⟨_,(qe (qj (qbC (qm z (hmR g) qz (qa (qA (K:=K) rfl (pv 0) rfl) (qa (pv 1) qd))) (qbB (qD G (hmR g) (pv 0) (qa (qr (qt (K:=K) rfl u) (pv 1) qh (fun _ _=>rfl)) (qa (qr (qt (K:=K) rfl u) (pv 1) qh (fun _ _=>rfl)) qd))))))),?_⟩;ext;refine .inl ⟨x,cw,y,_,.ref m,rfl,s,T.wcl,T.wn,jK,?_⟩;ext;refine ⟨m,t,ss,ab.1,ab.2,rfl,d,n,hw.nm _ m1,hw.nm _ l,m1,l,e,fun H1 b=>?_⟩;refine ⟨true,rfl,qag ?_⟩;have a:=b _ _ n;ext;refine ⟨x,y,_,rfl,b _ _ s,j8 (by decide +kernel),?_⟩;ext;refine .inl (qbj a (v:=.str ab.1) (qo (j:=0) rfl) ?_);ext;refine .inl (qbj a (v:=.str ab.2) (qo (j:=1) rfl) ?_);ext;obtain ⟨j,p⟩:=yf m1;obtain ⟨i,o⟩:=yf l;refine ⟨x,ss,ns,ab.1,ab.2,j,i,rfl,r.same b,p,o,fun H2 D=>?_⟩;rw [(A j i ab.1 ab.2 p o).mpr c];exact q H2 (b.trans D)
theorem ok_ap (F:Fun K "are_pairs" "are_pairs" zA f fd) (T:Txt K mg cc cw) (KY:MethOk P w K mg base CX0 7 cw "has_tie" ["self","thing"] (spHt cw)):FnOk P w K mg base CX0 8 f fd ["web","thing"] (spAp cw):=by
 refine F.ok K5 fun _ _ _ _ H vs Q E X h=>?_
 ·obtain ⟨x,l,ss,ns,us,tps,qs,rfl,W,hA,⟨hl,r⟩,g,q⟩:=h;have e:=jV X;obtain ⟨wx,dd,ol,nn,hb,_⟩:=id W;have few:=g.few;have N:=r.len;refine ⟨_,(qc (qN (q8 (qY (qu (qaw (K:=K) rfl) rfl T.b_isinstance YR (qa (pv 1) (qa (jT (v:=.ty "list") rfl T.b_list Xj rfl) qd))))) (qe (qj jF)) qv)
 (qc (qk (i:=2) K5.nd rfl (yK rfl) jM)
 (qc (jf yU rfl (qU (K:=K) rfl (pv 1)) (qq (i:=3) K5.nd rfl (yK rfl))
 (qc (qN (PW.pt (qbQ (q8 (qY (qD KY (hmR X) (pv 0) (qa (pv 3) qd)))) (qbQ (qp (zw (K:=K) rfl e) (qr (qt (K:=K) rfl e) (pv 3) qh (fun _ _=>rfl)) (pv 2) (by with_unfolding_all rfl)) (qaL (qp (zw (K:=K) rfl e) (qr (qt (K:=K) rfl e) (pv 3) qh (fun _ _=>rfl)) (pv 2) (by with_unfolding_all rfl)))))) (qe (qj jF)) qv)
 (qc (jv jF (jy (pv 2) (qr (qt (K:=K) rfl e) (pv 3) qh (fun _ _=>rfl)) (jB e)))
 (qe (jv jF (jy (pv 2) (qr (qt (K:=K) rfl e) (pv 3) qh (fun _ _=>rfl)) (jB e)))))))
 (qe (qj jF))))),?_⟩
  ext;refine qbx (.inl (.lst hl)) rfl (zK K "list" (by simp) "list" (by simp)) ?_;ext;refine yq ?_;ext;intro d C;have O:=qF (Sr H) (o:=.dK []) C;have U:upd H d (.dK []) d=some (.dK (qb3 [])):=qb;generalize upd H d (.dK [])=H1 at O U;ext;refine .inl ⟨⟨_,.of (O _ _ hl)⟩,qT (xs:=us.map V.ref) (fun i G J=>L2.Same H J/\∃ R,G=[some (.ref x),some (.ref l),some (.ref d),R]/\J d=some (.dK (qb3 (qw (qs.take i))))) ⟨O,_,rfl,U⟩ (fun i G J _ u=>.of (u.1 _ _ hl)) (fun i y G J Y u=>?_) fun G J u=>?_⟩
  ·obtain ⟨n,R,rfl,c⟩:=u;rw [yd] at Y;obtain ⟨b,s,rfl⟩:=yn.mp Y;have hi:i<us.length:=(yc.mp s).1;obtain ⟨ab,m⟩:∃ ab,qs[i]?=some ab:=⟨_,yb (by rw [<- N];exact hi)⟩;have B:=r.at_ i b ab s m;obtain ⟨ht,m1,m2,t⟩:=g.inn ab (ye m);obtain ⟨M,aa,Z,n2⟩:=g.new m;have ac:(qw (qs.take i)).length<=60:=by rw [qak,yP];omega
   have L:b≠d:=fun z=>by rw [z,C] at B;cases B
   ext;refine ⟨x,wx,_,rfl,n _ _ hb,j8 (by decide +kernel),?_⟩;ext;refine ⟨x,b,ss,ns,tps,ab,rfl,W.same n,hA,n _ _ B,ht,m1,m2,t,fun I D=>?_⟩;have A:=n.trans D;have a:=A _ _ B;ext;refine yq ?_;ext;refine .inl (qbj a (v:=.str ab.1) (qo (j:=0) rfl) ?_);ext;refine .inr (.inl ⟨d,_,rfl,DGet.k (k:=Sum.inr ab.1) (D _ _ c),?_⟩);rw [yy (by decide),zN,yl Z];ext;refine yq ?_;ext;refine .inl (qbj a (v:=.str ab.2) (qo (j:=1) rfl) ?_);ext;refine .inr (.inl ⟨d,_,rfl,DGet.k (k:=Sum.inr ab.2) (D _ _ c),?_⟩);rw [yy (by decide),zN,yl n2];ext;refine yq ?_;ext;refine .inl (qbj a (v:=.str ab.1) (qo (j:=0) rfl) ?_);ext;refine .inr ⟨d,_,rfl,DPut.k (k:=Sum.inr ab.1) (D _ _ c) (by unfold qb3;rw [ya,YL];omega),?_⟩;rw [qb4 Z];have s3:=qaj A (o:=.dK (qb3 (qw (qs.take i)++[ab.1]))) C;have S:upd I d (.dK (qb3 (qw (qs.take i)++[ab.1]))) d=some (.dK (qb3 (qw (qs.take i)++[ab.1]))):=qb;have p:upd I d (.dK (qb3 (qw (qs.take i)++[ab.1]))) b=some (.tup [.str ab.1,.str ab.2]):=by rw [qf L];exact a
   generalize upd I d (.dK (qb3 (qw (qs.take i)++[ab.1])))=J3 at s3 S p;ext;refine .inl (qbj p (v:=.str ab.2) (qo (j:=1) rfl) ?_);ext;refine .inr ⟨d,_,rfl,DPut.k (k:=Sum.inr ab.2) S (by unfold qb3;rw [ya,yt,YL];simp only [yC,YX];omega),?_⟩;rw [qb4 (fun z=>by rcases yD.mp z with z | z;exact n2 z;exact t (yA.mp z).symm)];exact ⟨qaj s3 C,_,rfl,by rw [qb,M,zO,Ym];rfl⟩
  ·obtain ⟨n,R,rfl,c⟩:=u;ext;exact q J n
theorem KL:FnScope ["web","pairs","partners","pair"] ["web","pairs"] (qg jX):=fS
theorem prK_len (qs:List (Str×Str)):(prK qs).length=2*qs.length:=by
 induction qs with
 | nil=>rfl
 | cons q r ih=>show (_::_::prK r).length=_;simp only [yC];rw [ih];omega
theorem prK_snoc (qs:List (Str×Str)) (q:Str×Str):prK (qs++[q])=prK qs++[(.inr q.1,.str q.2),(.inr q.2,.str q.1)]:=by
 unfold prK;rw [Xw];rfl
theorem prK_put {q:Str×Str} (h:(qw (qs++[q])).Nodup):zc (zc (prK qs) (.inr q.1:Key) (.str q.2)) (.inr q.2:Key) (.str q.1)=prK (qs++[q]):=by
 rw [zO] at h;obtain ⟨h1,b,c⟩:=Yi.mp h;have e:q.1∉qw qs:=fun z=>c _ z _ (by simp) rfl;have f:q.2∉qw qs:=fun z=>c _ z q.2 (by simp) rfl;have g:q.1≠q.2:=by simp at b;exact b
 have i:jG (prK qs) (.inr q.1:Key)=none:=by rw [jL,pt_none.mpr e];rfl
 rw [qap _ i]
 have a:jG (prK qs++[((.inr q.1:Key),V.str q.2)]) (.inr q.2:Key)=none:=by
  have a:jG (prK qs) (.inr q.2:Key)=none:=by rw [jL,pt_none.mpr f];rfl
  unfold jG at a ⊢;rw [List.find?_append];have:(prK qs).find? (fun d=>decide (d.1=(.inr q.2:Key)))=none:=by simpa using a
  rw [this];simp [g]
 rw [qap _ a,prK_snoc];simp
inductive spPn (cw:Addr) (vs:List V) (H:Hp) (Q:VK) (E:XK):Prop|mk (x l:Addr) (ss:List Str) (ns:List Nat) (us:List Addr) (tps qs:List (Str×Str)) (_:vs=[.ref x,.ref l]) (_:WebAt cw H x ss ns) (_:Adj ss ns tps) (_:PL H l us qs) (_:PGo ss tps qs) (_:∀ (d:Addr) (H':Hp),L2.Same H H'->H d=none->H' d=some (.dK (prK qs))->Q (.ref d) H')
theorem ok_pn (F:Fun K "partners_in" "partners_in" jX f fd) (T:Txt K mg cc cw) (uY:DefOk P w K mg base CX0 8 "are_pairs" ["web","thing"] (spAp cw)):FnOk P w K mg base CX0 9 f fd ["web","pairs"] (spPn cw):=by
 refine F.ok KL fun _ _ _ _ H vs Q E S h=>?_
 ·obtain ⟨x,l,ss,ns,us,tps,qs,rfl,Z,Y,⟨hl,n⟩,g,q⟩:=h;have p:=jV S;have few:=g.few;have u:=n.len;refine ⟨_,(qc (qN (q8 (qY (qm uY (hmR S) qz (qa (pv 0) (qa (pv 1) qd))))) (qe jw) qv)
 (qc (qk (i:=2) KL.nd rfl (yK rfl) jM)
 (qc (jf yU rfl (qU (K:=K) rfl (pv 1)) (qq (i:=3) KL.nd rfl (yK rfl))
 (qc (jv (qr (qt (K:=K) rfl p) (pv 3) qh (fun _ _=>rfl)) (jy (pv 2) (qr (qt (K:=K) rfl p) (pv 3) qh (fun _ _=>rfl)) (jB p)))
 (qe (jv (qr (qt (K:=K) rfl p) (pv 3) qh (fun _ _=>rfl)) (jy (pv 2) (qr (qt (K:=K) rfl p) (pv 3) qh (fun _ _=>rfl)) (jB p))))))
 (qe (qj (pv 2)))))),?_⟩
  ext;refine ⟨x,l,ss,ns,us,tps,qs,rfl,Z,Y,⟨hl,n⟩,g,fun H1 W=>?_⟩;ext;refine yq ?_;ext;intro d R;have c:=W.free R;have L:=qF W (o:=.dK []) R;have O:upd H1 d (.dK []) d=some (.dK (prK [])):=qb;generalize upd H1 d (.dK [])=H2 at L O;ext;refine .inl ⟨⟨_,.of (L _ _ hl)⟩,qT (xs:=us.map V.ref) (fun i B J=>L2.Same H J/\∃ M,B=[some (.ref x),some (.ref l),some (.ref d),M]/\J d=some (.dK (prK (qs.take i)))) ⟨L,_,rfl,O⟩ (fun i B J _ t=>.of (t.1 _ _ hl)) (fun i y B J U t=>?_) fun B J t=>?_⟩
  ·obtain ⟨A,M,rfl,a⟩:=t;rw [yd] at U;obtain ⟨b,s,rfl⟩:=yn.mp U;have hi:i<us.length:=(yc.mp s).1;obtain ⟨ab,r⟩:∃ ab,qs[i]?=some ab:=⟨_,yb (by rw [<- u];exact hi)⟩;have C:=n.at_ i b ab s r;obtain ⟨I,G,n1,n2⟩:=g.new r;have D:b≠d:=fun z=>by rw [z,c] at C;cases C
   have m:=A _ _ C;have aa:(prK (qs.take i)).length<=2000:=by rw [prK_len,yP];omega
   ext;refine .inl (qbj m (v:=.str ab.2) (qo (j:=1) rfl) ?_);ext;refine .inl (qbj m (v:=.str ab.1) (qo (j:=0) rfl) ?_);ext;refine .inr ⟨d,_,rfl,DPut.k (k:=Sum.inr ab.1) a (by rw [YL];omega),?_⟩;have X:=qaj A (o:=.dK (zc (prK (qs.take i)) (Sum.inr ab.1) (.str ab.2))) c;have N:upd J d (.dK (zc (prK (qs.take i)) (Sum.inr ab.1) (.str ab.2))) d=some (.dK (zc (prK (qs.take i)) (Sum.inr ab.1) (.str ab.2))):=qb;have e:upd J d (.dK (zc (prK (qs.take i)) (Sum.inr ab.1) (.str ab.2))) b=some (.tup [.str ab.1,.str ab.2]):=by rw [qf D];exact m
   generalize upd J d (.dK (zc (prK (qs.take i)) (Sum.inr ab.1) (.str ab.2)))=J3 at X N e;ext;refine .inl (qbj e (v:=.str ab.1) (qo (j:=0) rfl) ?_);ext;refine .inl (qbj e (v:=.str ab.2) (qo (j:=1) rfl) ?_);ext;refine .inr ⟨d,_,rfl,DPut.k (k:=Sum.inr ab.2) N ?_,?_⟩
   ·have:=jI (prK (qs.take i)) (Sum.inr ab.1:Key) (.str ab.2);rw [YL];omega
   ·exact ⟨qaj X c,_,rfl,by rw [qb,prK_put G,I]⟩
  ·obtain ⟨A,M,rfl,a⟩:=t;rw [ya,u,yS] at a;ext;exact q d J A c a
structure Gr (A:Str->Str->Prop) (f:Str->Option Str):Prop where
 as:∀ {a b},A a b->A b a
 ir:∀ {a b},A a b->a≠b
 fs:∀ {a b},f a=some b->f b=some a
 fa:∀ {a b},f a=some b->A a b
structure FS where
 rows:Str->Option (List Str)
 par:Str->Option Str
 bas:Str->Str
def Turns (A:Str->Str->Prop) (f:Str->Option Str) (r:List Str):Prop:=∀ (j:Nat) a b,r[j]?=some a->r[j+1]?=some b->A a b/\(f a=some b↔j % 2=1)
structure Alt (A:Str->Str->Prop) (f:Str->Option Str) (r:List Str) (v:Str):Prop where
 nd:r.Nodup
 odd:r.length % 2=1
 hd:∀ s,r[0]?=some s->f s=none
 tl:∃ r0,r=r0++[v]
 st:Turns A f r
structure FI (A:Str->Str->Prop) (f:Str->Option Str) (S:FS):Prop where
 alt:∀ v r,S.rows v=some r->Alt A f r v
 bse:∀ v r,S.rows v=some r->∃ rb t,S.rows (S.bas v)=some rb/\r=rb++t/\∀ u∈t,S.bas u=S.bas v
 idm:∀ v r,S.rows v=some r->S.bas (S.bas v)=S.bas v
 dwn:∀ b r q,S.rows b=some r->S.bas b=b->f b=some q->S.rows q=none/\∃ z rz,S.par q=some z/\S.rows z=some rz/\r=rz++[q,b]
 mat:∀ v,S.bas v≠v->(∃ r,S.rows v=some r)/\∃ u,f v=some u/\S.bas u=S.bas v
 odd:∀ x z,S.par x=some z->A z x/\(∃ r,S.rows z=some r)/\∃ y r,f x=some y/\S.rows y=some r
section
variable {A:Str->Str->Prop} {f:Str->Option Str} {S:FS}
theorem FI.own (I:FI A f S) (h:S.rows v=none):S.bas v=v:=YJ fun z=>by
 obtain ⟨⟨r,e⟩,_⟩:=I.mat v z;rw [h] at e;cases e
theorem FI.evb (I:FI A f S) (h:S.rows v=some r):∃ a,S.rows (S.bas v)=some a:=(I.bse v r h).elim fun a z=>⟨a,z.elim fun _ y=>y.1⟩
theorem FI.pair (I:FI A f S) {w:Str} {s:List Str} (hv:S.rows v=some r) (hw:S.rows w=some s) (h:f v=some w):S.bas v=S.bas w:=by
 by_cases z:S.bas v=v
 ·have:=(I.dwn v r w hv z h).1;rw [hw] at this;cases this
 ·obtain ⟨_,u,a,e⟩:=I.mat v z;rw [h] at a;cases a;exact e.symm
inductive Ch (f:Str->Option Str) (S:FS):Str->List Str->Prop
 | root {b:Str}:f b=none->Ch f S b [b]
 | step {b q z:Str} {l:List Str}:f b=some q->S.par q=some z->Ch f S (S.bas z) l->Ch f S b (b::l)
theorem Ch.one (h:Ch f S b l):∀ {m},Ch f S b m->m=l:=by
 induction h with
 | root e=>intro m g;cases g with
  | root _=>rfl
  | step e' _ _=>rw [e] at e';cases e'
 | step e p _ ih=>intro m g;cases g with
  | root e'=>rw [e] at e';cases e'
  | step e' p' g'=>rw [e] at e';cases e';rw [p] at p';cases p';rw [ih g']
theorem Ch.ne (h:Ch f S b l):∃ t,l=b::t:=by cases h<;>exact ⟨_,rfl⟩
theorem FI.chain (I:FI A f S):∀ (n:Nat) {b:Str} {r:List Str},r.length<=n->S.rows b=some r->S.bas b=b->∃ l,Ch f S b l
 | n,b,r,hn,hb,hbb=>by
  cases e:f b with
  | none=>exact ⟨_,.root e⟩
  | some q =>
   obtain ⟨_,z,rz,p,hz,c⟩:=I.dwn b r q hb hbb e;obtain ⟨a,t,h1,d,_⟩:=I.bse z rz hz;have hl:a.length<n:=by rw [c,d] at hn;simp at hn;omega
   match n,hl with
   | n+1,hl =>
    obtain ⟨l,g⟩:=I.chain n (b:=S.bas z) (r:=a) (by omega) h1 (I.idm z rz hz);exact ⟨_,.step e p g⟩
theorem FI.chainOf (I:FI A f S) (h:S.rows v=some r):∃ l,Ch f S (S.bas v) l:=by
 obtain ⟨a,e⟩:=I.evb h;exact I.chain _ (yh _) e (I.idm v r h)
def Cov (f:Str->Option Str) (S:FS) (l:List Str) (u:Str):Prop:=∃ d∈l,S.bas u=d\/f d=some u
theorem Cov.mono {m:List Str} (h:Cov f S l u) (a:∀ d∈l,d∈m):Cov f S m u:=h.elim fun d z=>⟨d,a d z.1,z.2⟩
theorem Ch.up (I:FI A f S) (h:Ch f S b l):∀ {v:Str} {r:List Str},S.rows v=some r->S.bas v=b->∀ {l1 l2:List Str} {c:Str},l=l1++c::l2->∃ s t,S.rows c=some s/\S.bas c=c/\Ch f S c (c::l2)/\r=s++t/\∀ u∈t,S.bas u=c\/Cov f S l1 u:=by
 induction h with
 | root e =>
  intro v r hv m l1 l2 c j
  cases l1 with
  | cons x y=>exact absurd (congrArg List.length j) (by simp)
  | nil =>
   cases j;obtain ⟨o,t,h1,n,i⟩:=I.bse v r hv;rw [m] at h1 i;exact ⟨o,t,h1,by rw [<- m];exact I.idm v r hv,.root e,n,fun u hu=>.inl (i u hu)⟩
 | @step b q z l e p g ih =>
  intro v r hv m l1 l2 c j;obtain ⟨o,t,h1,n,i⟩:=I.bse v r hv;rw [m] at h1 i;have a:S.bas b=b:=by rw [<- m];exact I.idm v r hv
  cases l1 with
  | nil =>
   cases j;exact ⟨o,t,h1,a,.step e p g,n,fun u hu=>.inl (i u hu)⟩
  | cons x y =>
   cases j;obtain ⟨J,K,rz,w,hz,B⟩:=I.dwn b o q h1 a e;rw [p] at w;cases w;obtain ⟨s,t',D,E,F,G,H⟩:=ih hz rfl rfl;refine ⟨s,t'++[q,b]++t,D,E,F,by rw [n,B,G];simp,fun u hu=>?_⟩;rcases yD.mp hu with hu | hu
   ·rcases yD.mp hu with hu | hu
    ·exact (H u hu).imp id fun z=>z.mono fun d C=>yz _ C
    ·simp only [yv,yG,Yl] at hu;rcases hu with rfl | rfl
     ·exact .inr ⟨b,yN,.inr e⟩
     ·exact .inr ⟨_,yN,.inl a⟩
   ·exact .inr ⟨b,yN,.inl (i u hu)⟩
theorem Ch.bs0 (I:FI A f S) (hv:S.rows v=some r) (h:Ch f S (S.bas v) l) (hc:c∈l):∃ a,S.rows c=some a/\S.bas c=c:=by
 obtain ⟨l1,l2,e⟩:=Yq hc;obtain ⟨a,_,h1,b,_⟩:=h.up I hv rfl e;exact ⟨a,h1,b⟩
theorem Ch.cov (G:Gr A f) (I:FI A f S) (hv:S.rows v=some r) (h:Ch f S (S.bas v) l) (hu:u∈r):Cov f S l u:=by
 have hl:l≠[]:=by obtain ⟨t,e⟩:=h.ne;rw [e];exact kU _ _
 obtain ⟨o,t,h1,s,w,x,y⟩:=h.up I hv rfl (xn hl).symm;have b:l.getLast hl∈l:=List.getLast_mem hl;rw [x] at hu;rcases yD.mp hu with hu | hu
 ·have D:f (l.getLast hl)=none:=by
   cases w with
   | root e=>exact e
   | step _ _ g=>obtain ⟨_,e⟩:=g.ne;cases e
  have c:=I.alt _ _ h1;obtain ⟨q,i⟩:=c.tl
  have m:q=[]:=by
   cases j:q.length with
   | zero=>exact List.eq_nil_of_length_eq_zero j
   | succ n =>
    exfalso;have p:o.length=n+2:=by rw [i];simp [j]
    obtain ⟨a,B⟩:∃ a,o[n]?=some a:=⟨_,yb (by omega)⟩;have C:o[n+1]?=some (l.getLast hl):=by rw [i,yJ (by omega),j];simp
    have:=G.fs ((c.st n a _ B C).2.mpr (by have:=c.odd;omega));rw [D] at this;cases this
  rw [i,m] at hu;have e:u=l.getLast hl:=by simpa using hu
  exact ⟨_,b,.inl (by rw [e];exact s)⟩
 ·rcases y u hu with z | ⟨d,hd,z⟩
  ·exact ⟨_,b,.inl z⟩
  ·exact ⟨d,List.dropLast_subset l hd,z⟩
theorem Cov.apart (G:Gr A f) (I:FI A f S) {m:List Str} (hl:∀ d∈l,∃ r,S.rows d=some r/\S.bas d=d) (n:∀ d∈m,∃ r,S.rows d=some r/\S.bas d=d) (t:∀ d∈l,d∉m) (h1:Cov f S l u) (p:Cov f S m u):False:=by
 have i:∀ {d e:Str},(∃ r,S.rows d=some r/\S.bas d=d)->(∃ r,S.rows e=some r/\S.bas e=e)->S.bas u=d->f e=some u->False:=fun ⟨r,b,q⟩ ⟨s,g,j⟩ h h'=>by
  have o:=(I.dwn _ _ _ g j h').1;have:=I.own o;rw [h] at this;rw [this,o] at b;cases b
 obtain ⟨d,b,z⟩:=h1;obtain ⟨e,g,y⟩:=p;have c:d≠e:=fun w=>t d b (by rw [w];exact g);rcases z with z | z<;>rcases y with y | y
 ·exact c (z.symm.trans y)
 ·exact i (hl d b) (n e g) z y
 ·exact i (n e g) (hl d b) y z
 ·have a:=G.fs z;rw [G.fs y] at a;exact c (ym a).symm
theorem Turns.app {s:List Str} (h:Turns A f r) (g:∀ (j:Nat) a b,s[j]?=some a->s[j+1]?=some b->A a b/\(f a=some b↔(r.length+j) % 2=1)) (w:∀ a b,r[r.length-1]?=some a->s[0]?=some b->0<r.length->A a b/\(f a=some b↔(r.length-1) % 2=1)):Turns A f (r++s):=fun j a b c d=>by
 by_cases h1:j+1<r.length
 ·rw [yZ (by omega)] at c;rw [yZ h1] at d;exact h j a b c d
 ·by_cases e:j+1=r.length
  ·rw [yZ (by omega),show j=r.length-1 by omega] at c;rw [yJ (by omega),show j+1-r.length=0 by omega] at d;rw [show j=r.length-1 by omega];exact w a b c d (by omega)
  ·rw [yJ (by omega)] at c;rw [yJ (by omega),show j+1-r.length=j-r.length+1 by omega] at d;have:=g _ a b c d
   rwa [show r.length+(j-r.length)=j by omega] at this
theorem Alt.back (G:Gr A f) {s t:List Str} {w q:Str} (hw:Alt A f s w) (hv:Alt A f r v) (i:r=rz++q::c::t) (hz:rz.length % 2=1) (F:A w v) (H:f w≠some v) (B:∀ u∈s,u∉q::c::t):Alt A f (s++(q::c::t).reverse) q:=by
 obtain ⟨L,p⟩:=hw.tl;obtain ⟨K,l⟩:=hv.tl;have o:0<s.length:=by rw [p];simp
 have I:=hv.odd;have n:r.length=rz.length+(t.length+2):=by rw [i];simp
 have at_:∀ {j:Nat} {a:Str},(q::c::t).reverse[j]?=some a->j<t.length+2/\r[r.length-1-j]?=some a:=fun {j a} h=>by
  have hl:=(yc.mp h).1;rw [YD] at hl;simp only [yC] at hl;rw [List.getElem?_reverse (by simp only [yC];omega)] at h;simp only [yC] at h;refine ⟨by omega,?_⟩;rw [n]
  conv=>lhs;rw [i]
  rw [yJ (by omega),show rz.length+(t.length+2)-1-j-rz.length=t.length+1+1-1-j by omega];exact h
 refine ⟨Yi.mpr ⟨hw.nd,?_,fun x J y g e=>B x J (by rw [e];exact kW.mp g)⟩,?_,fun y g=>?_,⟨s++(c::t).reverse,by simp⟩,hw.st.app (fun j a b h1 m=>?_) fun a b h1 m _=>?_⟩
 ·exact (List.reverse_perm _).nodup_iff.mpr ((Yi.mp (i ▸ hv.nd)).2.1)
 ·rw [yt,YD];simp only [yC];have:=hw.odd;omega
 ·rw [yZ o] at g;exact hw.hd y g
 ·obtain ⟨l1,C⟩:=at_ h1;obtain ⟨l2,d⟩:=at_ m;have:=hv.st (r.length-1-(j+1)) b a d (by rw [show r.length-1-(j+1)+1=r.length-1-j by omega];exact C);refine ⟨G.as this.1,⟨fun z=>?_,fun z=>?_⟩⟩
  ·have:=this.2.mp (G.fs z);have:=hw.odd;omega
  ·exact G.fs (this.2.mpr (by have:=hw.odd;omega))
 ·have D:a=w:=by
   rw [p,yt,yJ (by simp)] at h1;simpa using h1.symm
  have E:b=v:=by
   obtain ⟨_,d⟩:=at_ m;rw [Ki,l,yt,yJ (by simp)] at d;simpa using d.symm
  subst D;subst E;exact ⟨F,⟨fun z=>absurd z H,fun z=>by have:=hw.odd;omega⟩⟩
end
section
variable {A:Str->Str->Prop} {f:Str->Option Str} {S S':FS}
theorem Ch.nd (I:FI A f S) (h:Ch f S b l):∀ {v:Str} {r:List Str},S.rows v=some r->S.bas v=b->l.Nodup:=by
 induction h with
 | root e=>intro _ _ _ _;simp
 | @step b q z l e p g ih =>
  intro v r hv d;have a:S.bas b=b:=by rw [<- d];exact I.idm v r hv
  obtain ⟨n,h1⟩:=I.evb hv;rw [d] at h1;obtain ⟨_,o,rz,i,hz,_⟩:=I.dwn b n q h1 a e;rw [p] at i;cases i;refine yo.mpr ⟨fun j=>?_,ih hz rfl⟩;obtain ⟨x,y,c⟩:=Yq j;obtain ⟨_,_,_,_,m,_⟩:=g.up I hz rfl c;have:=m.one (.step e p g);rw [c] at this;have:=congrArg List.length this;simp at this;omega
theorem Ch.suf (I:FI A f S) (hv:S.rows v=some r) (h:Ch f S (S.bas v) l) {q:Str} (e:l=l1++c::l2) (b:f c=some q):∃ rz t,r=rz++q::c::t/\rz.length % 2=1/\S.rows q=none/\∀ u∈q::c::t,Cov f S (l1++[c]) u:=by
 obtain ⟨p,t,h1,a,_,g,i⟩:=h.up I hv rfl e;obtain ⟨m,z,rz,_,n,o⟩:=I.dwn c p q h1 a b;refine ⟨rz,t,by rw [g,o];simp,(I.alt z rz n).odd,m,fun u hu=>?_⟩;rcases yv.mp hu with rfl | hu
 ·exact ⟨c,by simp,.inr b⟩
 ·rcases yv.mp hu with rfl | hu
  ·exact ⟨u,by simp,.inl a⟩
  ·rcases i u hu with z | z
   ·exact ⟨c,by simp,.inl z⟩
   ·exact z.mono fun d j=>yO _ j
theorem Ch.meet (I:FI A f S) {w:Str} {s:List Str} (hv:S.rows v=some r) (hw:S.rows w=some s) (h:Ch f S (S.bas v) l) (h':Ch f S (S.bas w) l') {j:List Str} {m:Str} (n:l=l1++m::l2) (i:l'=m1++m::j) (J:∀ d∈l1,d∉l'):j=l2/\∀ d∈m1,d∉l:=by
 obtain ⟨_,_,_,_,k,_⟩:=h.up I hv rfl n;obtain ⟨_,_,_,_,k',_⟩:=h'.up I hw rfl i;have E:j=l2:=(xu (k.one k')).2;refine ⟨E,fun d K hl=>?_⟩;obtain ⟨a,b,C⟩:=Yq K;obtain ⟨x,y,ex⟩:=Yq hl;obtain ⟨_,_,_,_,g,_⟩:=h.up I hv rfl ex;obtain ⟨_,_,_,_,g',_⟩:=h'.up I hw rfl (l1:=a) (c:=d) (l2:=b++m::j) (by rw [i,C];simp);have u:y=b++m::j:=(xu (g'.one g)).2;have e:=h.nd I hv rfl;have o:d∈l':=by rw [i,C];simp
 have q:d∉l1:=fun z=>J d z o;have p:d∈m::l2:=by rw [n] at hl;exact (yD.mp hl).resolve_left q
 rcases yv.mp p with z | z
 ·rw [z] at ex;rw [ex,u] at e;have:=(Yi.mp e).2.1;exact (yo.mp this).1 (by simp)
 ·have t:m∈x:=by
   obtain ⟨L,D,F⟩:=Yq z;have B:l=(l1++m::L)++d::D:=by rw [n,F];simp
   obtain ⟨_,_,_,_,H,_⟩:=h.up I hv rfl B;have G:D=y:=(xu (g.one H)).2;rw [B,G] at ex;rw [<- List.append_cancel_right ex];simp
  rw [ex,u] at e;exact (Yi.mp e).2.2 m t m (by simp) rfl
def NewRow (S:FS) (v w u:Str) (r:List Str):Prop:=∃ rv rw rz t,S.rows v=some rv/\S.rows w=some rw/\rv=rz++u::t/\r=rw++(u::t).reverse
def InR (f:Str->Option Str) (m:Str) (a:List Str) (u:Str):Prop:=u=m\/∃ c∈a,u=c\/f c=some u
structure Mg (f:Str->Option Str) (S S':FS) (v w m:Str) (l1 m1:List Str):Prop where
 par:S'.par=S.par
 old:∀ u r,S.rows u=some r->S'.rows u=some r
 new:∀ u r,S'.rows u=some r->S.rows u=some r\/(∃ c∈l1,f c=some u/\NewRow S v w u r)\/(∃ c∈m1,f c=some u/\NewRow S w v u r)
 all:∀ c∈l1++m1,∀ q,f c=some q->∃ r,S'.rows q=some r
 inn:∀ u,InR f m (l1++m1) (S.bas u)->S'.bas u=m
 out:∀ u,¬ InR f m (l1++m1) (S.bas u)->S'.bas u=S.bas u
theorem cut_one {a b c d:List Str} {x:Str} (h:(a++x::b).Nodup) (e:a++x::b=c++x::d):a=c/\b=d:=by
 induction a generalizing c with
 | nil =>
  cases c with
  | nil=>exact ⟨rfl,(xu e).2⟩
  | cons y c =>
   obtain ⟨f,g⟩:=xu e;exact absurd (show x∈b by rw [g];simp) (yo.mp h).1
 | cons y a ih =>
  cases c with
  | nil =>
   obtain ⟨f,g⟩:=xu e;exact absurd (show y∈a++x::b by rw [f];simp) (yo.mp h).1
  | cons z c =>
   obtain ⟨f,g⟩:=xu e;obtain ⟨h1,i⟩:=ih (yo.mp h).2 g;exact ⟨by rw [f,h1],i⟩
theorem NewRow.ok (G:Gr A f) (I:FI A f S) {w:Str} (hv:S.rows v=some rv) (hw:S.rows w=some rw) (h:Ch f S (S.bas v) l) (h':Ch f S (S.bas w) l') (o:l=l1++l2) (J:∀ d∈l1,d∉l') (F:A w v) (H:S.bas w≠S.bas v) (hc:c∈l1) (L:f c=some u) (K:NewRow S v w u r) :
  Alt A f r u/\S.rows u=none/\∃ t,r=rw++t/\∀ x∈t,Cov f S l1 x:=by
 obtain ⟨M,N,rz,t,p,q,s,y⟩:=K;rw [hv] at p;cases p;rw [hw] at q;cases q;obtain ⟨a,b,n⟩:=Yq hc;obtain ⟨O,t',j,B,C,m⟩:=h.suf I hv (l1:=a) (c:=c) (l2:=b++l2) (by rw [o,n];simp) L;have e:=(I.alt v rv hv).nd;obtain ⟨D,E⟩:=cut_one (by rw [<- s];exact e) (s.symm.trans j);subst D;subst E;have sub:∀ d∈a++[c],d∈l1:=fun d z=>by rw [n];rcases yD.mp z with z | z;exact yO _ z;rw [yA.mp z];simp
 have inl:∀ d∈l1,d∈l:=fun d z=>by rw [o];exact yO _ z
 refine ⟨?_,C,_,y,fun x g=>(m x (kW.mp g)).mono sub⟩;rw [y];refine Alt.back G (I.alt w rw hw) (I.alt v rv hv) j B F (fun z=>H (I.pair hw hv z)) fun x g i=>?_;exact Cov.apart G I (fun d z=>h.bs0 I hv (inl d (sub d z))) (fun d z=>h'.bs0 I hw z) (fun d z=>J d (sub d z)) (m x i) (h'.cov G I hw g)
theorem FI.merge (G:Gr A f) (I:FI A f S) {w m:Str} (hv:S.rows v=some rv) (hw:S.rows w=some rw) (h:Ch f S (S.bas v) (l1++m::l2)) (h':Ch f S (S.bas w) (m1++m::l2)) (hd:∀ d∈l1,d∉m1++m::l2) (U:∀ d∈m1,d∉l1++m::l2) (ha:A v w) (hb:S.bas v≠S.bas w) (M:Mg f S S' v w m l1 m1):FI A f S':=by
 have hm:∃ r,S.rows m=some r/\S.bas m=m:=h.bs0 I hv (by simp);obtain ⟨P,H,W⟩:=hm
 have B:∀ c∈l1++m1,(∃ r,S.rows c=some r/\S.bas c=c)/\c≠m/\∃ q,f c=some q/\S.rows q=none:=fun c hc=>by
  rcases yD.mp hc with z | z
  ·refine ⟨h.bs0 I hv (yO _ z),fun e=>hd c z (by rw [e];simp),?_⟩;obtain ⟨a,b,E⟩:=Yq z;obtain ⟨rc,_,D,o,p,_⟩:=h.up I hv rfl (l1:=a) (c:=c) (l2:=b++m::l2) (by rw [E];simp);generalize l:b++m::l2=x at p
   cases p with
   | root _=>exact absurd (congrArg List.length l) (by simp)
   | step e _ _=>exact ⟨_,e,(I.dwn _ _ _ D o e).1⟩
  ·refine ⟨h'.bs0 I hw (yO _ z),fun e=>U c z (by rw [e];simp),?_⟩;obtain ⟨a,b,E⟩:=Yq z;obtain ⟨rc,_,D,o,p,_⟩:=h'.up I hw rfl (l1:=a) (c:=c) (l2:=b++m::l2) (by rw [E];simp);generalize l:b++m::l2=x at p
   cases p with
   | root _=>exact absurd (congrArg List.length l) (by simp)
   | step e _ _=>exact ⟨_,e,(I.dwn _ _ _ D o e).1⟩
 have cov:∀ u,Cov f S (l1++m1) u->S'.bas u=m:=fun u ⟨d,hd,z⟩=>by
  refine M.inn u ?_;rcases z with z | z
  ·exact .inr ⟨d,hd,.inl z⟩
  ·have hn:=(B d hd).2.2;obtain ⟨q,e,F⟩:=hn;rw [z] at e;cases e;rw [I.own F];exact .inr ⟨d,hd,.inr z⟩
 have K:∀ u,Cov f S l1 u->S'.bas u=m:=fun u z=>cov u (z.mono fun d y=>yO _ y);have L:∀ u,Cov f S m1 u->S'.bas u=m:=fun u z=>cov u (z.mono fun d y=>yL _ y);have bm:∀ u,S.bas u=m->S'.bas u=m:=fun u z=>M.inn u (.inl z);have m0:S'.bas m=m:=bm m W;have Z:=M.old m P H
 have J:∀ {x:Str} {rx a b:List Str},S.rows x=some rx->Ch f S (S.bas x) (a++m::b)->(∀ d∈a,d∈l1++m1)->∃ t,rx=P++t/\∀ u∈t,S'.bas u=m:=fun {x rx a b} l hc hs=>by
  obtain ⟨rc,t,D,_,_,R,g5⟩:=hc.up I l rfl rfl;rw [H] at D;cases D;exact ⟨t,R,fun u j=>(g5 u j).elim (bm u) fun z=>cov u (z.mono hs)⟩
 have nw:∀ u r,(∃ c∈l1,f c=some u/\NewRow S v w u r)\/(∃ c∈m1,f c=some u/\NewRow S w v u r)->Alt A f r u/\S.rows u=none/\S'.bas u=m/\∃ t,r=P++t/\∀ x∈t,S'.bas x=m:=fun u r z=>by
  rcases z with ⟨c,hc,j,C⟩ | ⟨c,hc,j,C⟩
  ·obtain ⟨D,o,t,p,R⟩:=NewRow.ok G I hv hw h h' rfl hd (G.as ha) (Yh hb) hc j C;obtain ⟨t0,p1,p2⟩:=J hw h' fun d y=>yL _ y;exact ⟨D,o,K u ⟨c,hc,.inr j⟩,t0++t,by rw [p,p1];simp,fun x l=>(yD.mp l).elim (p2 x) fun y=>K x (R x y)⟩
  ·obtain ⟨D,o,t,p,R⟩:=NewRow.ok G I hw hv h' h rfl U ha hb hc j C;obtain ⟨t0,p1,p2⟩:=J hv h fun d y=>yO _ y;exact ⟨D,o,L u ⟨c,hc,.inr j⟩,t0++t,by rw [p,p1];simp,fun x l=>(yD.mp l).elim (p2 x) fun y=>L x (R x y)⟩
 have af:∀ u r,S.rows u=some r->InR f m (l1++m1) (S.bas u)->S.bas u=m\/S.bas u∈l1++m1:=fun u r j z=>by
  rcases z with z | ⟨c,hc,z | z⟩
  ·exact .inl z
  ·exact .inr (by rw [z];exact hc)
  ·obtain ⟨q,e,F⟩:=(B c hc).2.2;rw [z] at e;cases e;obtain ⟨rb,n⟩:=I.evb j;rw [F] at n;cases n
 refine ⟨fun u r j=>?_,fun u r j=>?_,fun u r j=>?_,fun b r q aa O F=>?_,fun u j=>?_,fun x z l=>?_⟩
 ·rcases M.new u r j with z | z
  ·exact I.alt u r z
  ·exact (nw u r z).1
 ·rcases M.new u r j with z | z
  ·by_cases i:InR f m (l1++m1) (S.bas u)
   ·rw [M.inn u i];refine ⟨P,?_⟩
    have:∃ t,r=P++t/\∀ x∈t,S'.bas x=m:=by
     rcases af u r z i with y | y
     ·obtain ⟨rb,t,N,n,e3⟩:=I.bse u r z;rw [y,H] at N;cases N;exact ⟨t,n,fun x l=>bm x ((e3 x l).trans y)⟩
     ·rcases yD.mp y with y | y
      ·obtain ⟨a,b,E⟩:=Yq y;obtain ⟨_,_,_,_,g,_⟩:=h.up I hv rfl (l1:=a) (c:=S.bas u) (l2:=b++m::l2) (by rw [E];simp);exact J z (a:=S.bas u::b) (by simpa using g) fun d hd=>by rw [E];rcases yv.mp hd with rfl | hd<;>simp [*]
      ·obtain ⟨a,b,E⟩:=Yq y;obtain ⟨_,_,_,_,g,_⟩:=h'.up I hw rfl (l1:=a) (c:=S.bas u) (l2:=b++m::l2) (by rw [E];simp);exact J z (a:=S.bas u::b) (by simpa using g) fun d hd=>by rw [E];rcases yv.mp hd with rfl | hd<;>simp [*]
    obtain ⟨t,N,n⟩:=this;exact ⟨t,Z,N,n⟩
   ·rw [M.out u i];obtain ⟨rb,t,N,n,e3⟩:=I.bse u r z;exact ⟨rb,t,M.old _ _ N,n,fun x l=>by rw [M.out x (by rw [e3 x l];exact i)];exact e3 x l⟩
  ·obtain ⟨_,_,e,t,N,n⟩:=nw u r z;rw [e];exact ⟨P,t,Z,N,n⟩
 ·by_cases i:InR f m (l1++m1) (S.bas u)
  ·rw [M.inn u i];exact m0
  ·rw [M.out u i];rcases M.new u r j with z | z
   ·have e:=I.idm u r z;rw [M.out _ (by rw [e];exact i)];exact e
   ·obtain ⟨_,o,_⟩:=nw u r z;have e:=I.own o;rw [e,M.out u (by rw [e] at i ⊢;exact i)];exact e
 ·have ac:S.bas b=b/\(b=m\/¬ InR f m (l1++m1) (S.bas b)):=by
   by_cases i:InR f m (l1++m1) (S.bas b)
   ·have:=M.inn b i;rw [O] at this;rw [this];exact ⟨W,.inl rfl⟩
   ·have:=M.out b i;rw [O] at this;exact ⟨this.symm,.inr i⟩
  obtain ⟨T,ad⟩:=ac
  have C:S.rows b=some r:=by
   rcases M.new b r aa with z | z
   ·exact z
   ·exfalso;obtain ⟨_,o,p,_⟩:=nw b r z;rw [O] at p;rw [p,H] at o;cases o
  obtain ⟨k1,z,rz,k2,k3,k4⟩:=I.dwn b r q C T F;refine ⟨?_,z,rz,by rw [M.par];exact k2,M.old _ _ k3,k4⟩
  cases e:S'.rows q with
  | none=>rfl
  | some s =>
   exfalso
   have Y:∀ c∈l1++m1,f c=some q->False:=fun c hc ae=>by
    have:=G.fs ae;rw [G.fs F] at this;have n:=ym this;subst n;rcases ad with y | y
    ·exact (B b hc).2.1 y
    ·exact y (.inr ⟨b,hc,.inl T⟩)
   rcases M.new q s e with y | ⟨c,hc,y,_⟩ | ⟨c,hc,y,_⟩
   ·rw [k1] at y;cases y
   ·exact Y c (yO _ hc) y
   ·exact Y c (yL _ hc) y
 ·by_cases i:InR f m (l1++m1) (S.bas u)
  ·rw [M.inn u i] at j ⊢;by_cases X:S.bas u=u
   ·rw [X] at i;rcases i with z | ⟨c,hc,z | z⟩
    ·exact absurd z.symm j
    ·subst z;obtain ⟨⟨r,C,_⟩,_,q,F,_⟩:=B u hc;exact ⟨⟨r,M.old _ _ C⟩,q,F,cov q ⟨u,hc,.inr F⟩⟩
    ·exact ⟨M.all c hc u z,c,G.fs z,cov c ⟨c,hc,.inl (B c hc).1.choose_spec.2⟩⟩
   ·obtain ⟨⟨r,C⟩,y,hy,e⟩:=I.mat u X;exact ⟨⟨r,M.old _ _ C⟩,y,hy,M.inn y (by rw [e];exact i)⟩
  ·rw [M.out u i] at j ⊢;obtain ⟨⟨r,C⟩,y,hy,e⟩:=I.mat u j;exact ⟨⟨r,M.old _ _ C⟩,y,hy,by rw [M.out y (by rw [e];exact i)];exact e⟩
 ·rw [M.par] at l;obtain ⟨k1,⟨r,k2⟩,y,s,k3,k4⟩:=I.odd x z l;exact ⟨k1,⟨r,M.old _ _ k2⟩,y,s,k3,M.old _ _ k4⟩
end
structure Aug (A:Str->Str->Prop) (f:Str->Option Str) (r:List Str):Prop where
 nd:r.Nodup
 two:2<=r.length
 ev:r.length % 2=0
 st:Turns A f r
 hd:∀ s,r[0]?=some s->f s=none
 tl:∀ s,r[r.length-1]?=some s->f s=none
section
variable {A:Str->Str->Prop} {f:Str->Option Str} {S S':FS}
theorem FI.aug (G:Gr A f) (I:FI A f S) {w:Str} (hv:S.rows v=some rv) (hw:S.rows w=some rw) (h:Ch f S (S.bas v) l) (h':Ch f S (S.bas w) l') (hl:l.getLast?≠l'.getLast?) (E:A v w):Aug A f (rv++rw.reverse):=by
 have n:∀ d∈l,d∉l':=fun d F p=>by
  obtain ⟨a,b,e⟩:=Yq F;obtain ⟨x,y,q⟩:=Yq p;obtain ⟨_,_,_,_,k,_⟩:=h.up I hv rfl e;obtain ⟨_,_,_,_,k',_⟩:=h'.up I hw rfl q;have:=k.one k';exact hl (by rw [e,q,this,Xq,Xq];rfl)
 have c:=I.alt v rv hv;have g:=I.alt w rw hw;obtain ⟨O,r⟩:=c.tl;obtain ⟨P,t⟩:=g.tl;have K:0<rv.length:=by rw [r];simp
 have L:0<rw.length:=by rw [t];simp
 have M:=c.odd;have N:=g.odd
 have H:f v≠some w:=fun z=>by
  have e:=I.pair hv hw z;have:=h.one (e ▸ h');rw [this] at hl;exact hl rfl
 have at_:∀ {j:Nat} {a:Str},rw.reverse[j]?=some a->j<rw.length/\rw[rw.length-1-j]?=some a:=fun {j a} e=>by
  have hl:=(yc.mp e).1;rw [YD] at hl;rw [List.getElem?_reverse hl] at e;exact ⟨hl,e⟩
 refine ⟨Yi.mpr ⟨c.nd,(List.reverse_perm _).nodup_iff.mpr g.nd,fun x J y u e=>?_⟩,by rw [yt,YD];omega,by rw [yt,YD];omega,c.st.app (fun j a b h1 o=>?_) fun a b h1 o _=>?_,fun s i=>?_,fun s i=>?_⟩
 ·rw [<- e] at u;exact Cov.apart G I (fun d z=>h.bs0 I hv z) (fun d z=>h'.bs0 I hw z) n (h.cov G I hv J) (h'.cov G I hw (kW.mp u))
 ·obtain ⟨l1,B⟩:=at_ h1;obtain ⟨l2,m⟩:=at_ o;have:=g.st (rw.length-1-(j+1)) b a m (by rw [show rw.length-1-(j+1)+1=rw.length-1-j by omega];exact B);refine ⟨G.as this.1,⟨fun z=>?_,fun z=>?_⟩⟩
  ·have:=this.2.mp (G.fs z);omega
  ·exact G.fs (this.2.mpr (by omega))
 ·have C:a=v:=by
   rw [r,yt,yJ (by simp)] at h1;simpa using h1.symm
  have D:b=w:=by
   obtain ⟨_,m⟩:=at_ o;rw [Ki,t,yt,yJ (by simp)] at m;simpa using m.symm
  subst C;subst D;exact ⟨E,⟨fun z=>absurd z H,fun z=>by omega⟩⟩
 ·rw [yZ K] at i;exact c.hd s i
 ·rw [yt,YD,yJ (by omega),show rv.length+rw.length-1-rv.length=rw.length-1 by omega] at i;obtain ⟨_,e⟩:=at_ i;rw [k7] at e;exact g.hd s e
structure Gw (S S':FS) (p u y:Str) (r:List Str):Prop where
 ry:S'.rows y=some (r++[u,y])
 ro:∀ s,s≠y->S'.rows s=S.rows s
 pu:S'.par u=some p
 po:∀ s,s≠u->S'.par s=S.par s
 ba:S'.bas=S.bas
theorem FI.fresh (G:Gr A f) (I:FI A f S) (a:S.rows u=none) (g:S.par u=none) (c:f u=some y):S.rows y=none:=by
 cases e:S.rows y with
 | none=>rfl
 | some s =>
  exfalso;by_cases z:S.bas y=y
  ·obtain ⟨_,_,_,k,_⟩:=I.dwn y s u e z (G.fs c);rw [g] at k;cases k
  ·obtain ⟨_,x,b,k⟩:=I.mat y z;rw [G.fs c] at b;cases b;rw [I.own a] at k;obtain ⟨h,d⟩:=I.evb e;rw [<- k,a] at d;cases d
theorem FI.grow (G:Gr A f) (I:FI A f S) {p:Str} (o:S.rows p=some r) (O:A p u) (w:S.rows u=none) (K:S.par u=none) (n:f u=some y) (W:Gw S S' p u y r):FI A f S':=by
 have c:=I.fresh G w K n;have T:u≠y:=G.ir (G.fa n);have py:p≠y:=fun z=>by rw [z,c] at o;cases o
 have g:∀ s t,S.rows s=some t->S'.rows s=some t:=fun s t e=>by rw [W.ro s (fun z=>by rw [z,c] at e;cases e)];exact e
 have new:∀ s t,S'.rows s=some t->(s=y/\t=r++[u,y])\/(s≠y/\S.rows s=some t):=fun s t e=>by
  by_cases z:s=y
  ·subst z;rw [W.ry] at e;exact .inl ⟨rfl,(ym e).symm⟩
  ·rw [W.ro s z] at e;exact .inr ⟨z,e⟩
 obtain ⟨l,hl⟩:=I.chainOf o
 have C:∀ x∈r,x≠u/\x≠y:=fun x D=>by
  obtain ⟨d,X,z⟩:=hl.cov G I o D;obtain ⟨rd,i,m⟩:=hl.bs0 I o X;refine ⟨fun e=>?_,fun e=>?_⟩
  ·rw [e] at z;rcases z with z | z
   ·rw [I.own w] at z;rw [z,i] at w;cases w
   ·obtain ⟨_,_,_,k,_⟩:=I.dwn d rd u i m z;rw [K] at k;cases k
  ·rw [e] at z;rcases z with z | z
   ·rw [I.own c] at z;rw [z,i] at c;cases c
   ·have:=G.fs z;rw [G.fs n] at this;rw [ym this,i] at w;cases w
 have B:=I.alt p r o;obtain ⟨r0,N⟩:=B.tl;have L:0<r.length:=by rw [N];simp
 refine ⟨fun v t e=>?_,fun v t e=>?_,fun v t e=>?_,fun b t q e P F=>?_,fun v e=>?_,fun x z e=>?_⟩
 ·rcases new v t e with ⟨rfl,rfl⟩ | ⟨_,e⟩
  ·refine ⟨Yi.mpr ⟨B.nd,by simp [T],fun x D z hz E=>?_⟩,by rw [yt];have:=B.odd;simp only [yC,YX];omega,fun s R=>?_,⟨r++[u],by simp⟩,B.st.app (fun j a b h1 J=>?_) fun a b h1 J _=>?_⟩
   ·obtain ⟨Z,n2⟩:=C x D;simp only [yv,yG,Yl] at hz;rcases hz with rfl | rfl
    ·exact Z E
    ·exact n2 E
   ·rw [yZ L] at R;exact B.hd s R
   ·have Y:j=0:=by have:=(yc.mp J).1;simp at this;omega
    subst Y;cases h1;cases J;exact ⟨G.fa n,⟨fun _=>by have:=B.odd;omega,fun _=>n⟩⟩
   ·cases J
    have U:a=p:=by
     rw [N,yt,yJ (by simp)] at h1;simpa using h1.symm
    subst U;refine ⟨O,⟨fun z=>?_,fun z=>by have:=B.odd;omega⟩⟩;have:=G.fs z;rw [n] at this;exact absurd (ym this).symm py
  ·exact I.alt v t e
 ·rw [W.ba];rcases new v t e with ⟨rfl,rfl⟩ | ⟨_,e⟩
  ·rw [I.own c];exact ⟨_,[],W.ry,by simp,(fun x h=>by cases h)⟩
  ·obtain ⟨rb,s,i,m,H⟩:=I.bse v t e;exact ⟨rb,s,g _ _ i,m,H⟩
 ·rw [W.ba];rcases new v t e with ⟨rfl,rfl⟩ | ⟨_,e⟩
  ·rw [I.own c,I.own c]
  ·exact I.idm v t e
 ·rw [W.ba] at P;rcases new b t e with ⟨rfl,rfl⟩ | ⟨_,e⟩
  ·rw [G.fs n] at F;cases F;exact ⟨by rw [W.ro u T];exact w,p,r,W.pu,g _ _ o,rfl⟩
  ·obtain ⟨i,z,rz,m,H,M⟩:=I.dwn b t q e P F;refine ⟨?_,z,rz,?_,g _ _ H,M⟩
   ·rw [W.ro q fun z=>?_]
    ·exact i
    ·rw [z] at F;have:=G.fs F;rw [G.fs n] at this;rw [<- ym this,w] at e;cases e
   ·rw [W.po q fun z=>?_]
    ·exact m
    ·rw [z,K] at m;cases m
 ·rw [W.ba] at e ⊢;obtain ⟨⟨t,i⟩,m⟩:=I.mat v e;exact ⟨⟨t,g _ _ i⟩,m⟩
 ·by_cases D:x=u
  ·subst D;rw [W.pu] at e;cases e;exact ⟨O,⟨r,g _ _ o⟩,y,_,n,W.ry⟩
  ·rw [W.po x D] at e;obtain ⟨i,⟨t,m⟩,y',s,H,M⟩:=I.odd x z e;exact ⟨i,⟨t,g _ _ m⟩,y',s,H,g _ _ M⟩
theorem FI.start (h1:∀ v r,S.rows v=some r->f v=none/\r=[v]) (d:∀ x,S.par x=none) (c:∀ v,S.bas v=v):FI A f S:=by
 refine ⟨fun v r e=>?_,fun v r e=>?_,fun v r e=>by rw [c,c],fun b r q e _ g=>?_,fun v e=>absurd (c v) e,fun x z e=>by rw [d] at e;cases e⟩
 ·obtain ⟨k,rfl⟩:=h1 v r e;refine ⟨by simp,rfl,fun s i=>by cases i;exact k,⟨[],rfl⟩,fun j a b h1 d=>?_⟩;simp at d
 ·exact ⟨r,[],by rw [c];exact e,by simp,(fun x h=>by cases h)⟩
 ·rw [(h1 b r e).1] at g;cases g
end
structure CI (A:Str->Str->Prop) (S:FS) (Pd:Str->Prop):Prop where
 cl:∀ v u,Pd v->A v u->S.bas u=S.bas v\/(S.par u≠none/\¬ Pd u)
 pe:∀ v,Pd v->S.rows v≠none
theorem CI.mono (h:CI A S Pd) (b:∀ u v,S.bas u=S.bas v->S'.bas u=S'.bas v) (c:∀ u,S.par u≠none->S'.par u≠none) (d:∀ u,S.rows u≠none->S'.rows u≠none):CI A S' Pd:=
 ⟨fun v u k a=>(h.cl v u k a).imp (b u v) fun z=>⟨c u z.1,z.2⟩,fun v k=>d v (h.pe v k)⟩
theorem qdq:∀ {l m:List Str},l.Nodup->(∀ x∈l,x∈m)->l.length<=m.length
 | [],_,_,_=>YI _
 | x::r,m,hn,hs=>by
  obtain ⟨h1,c⟩:=yo.mp hn;have a:=hs x yN;have:=qdq (l:=r) (m:=m.erase x) c fun y b=>(ki (fun e=>h1 (by rw [<- e];exact b))).mpr (hs y (yz _ b));rw [xj a] at this;have:0<m.length:=xt a;simp only [yC];omega
theorem qfm:∀ (n:Nat) {X:List Str},X.length<=n->X.Nodup->(∀ x∈X,∃ y∈X,g x=some y/\y≠x/\g y=some x)->X.length % 2=0
 | _,[],_,_,_=>rfl
 | 0,x::r,h,_,_=>by simp at h
 | n+1,x::r,h,hn,hp=>by
  obtain ⟨h1,d⟩:=yo.mp hn;obtain ⟨y,p,j,i,l⟩:=hp x yN;have c:y∈r:=(yv.mp p).resolve_left i;have hl:=xj c;have t:0<r.length:=xt c
  have:=qfm n (X:=r.erase y) (by simp at h;omega) (d.erase y) fun z hz=>by
   have a:=(d.mem_erase_iff.mp hz);obtain ⟨u,o,m,f,b⟩:=hp z (yz _ a.2);have q:u≠x:=fun e=>by rw [e,j] at b;exact a.1 (ym b).symm
   have s:u≠y:=fun e=>by rw [e,l] at b;exact h1 (by rw [ym b];exact a.2)
   exact ⟨u,d.mem_erase_iff.mpr ⟨s,(yv.mp o).resolve_left q⟩,m,f,b⟩
  simp only [yC];omega
structure Fn (A:Str->Str->Prop) (f:Str->Option Str) (S:FS) (ss:List Str):Prop where
 fi:FI A f S
 gr:Gr A f
 inn:∀ a b,A a b->a∈ss
 nd:ss.Nodup
 cl:∀ v u,S.rows v≠none->A v u->S.bas u=S.bas v\/(S.par u≠none/\S.rows u=none)
 sng:∀ z∈ss,f z=none->S.rows z≠none
 es:∀ v,S.rows v≠none->v∈ss
noncomputable def qeG (S:FS) (ss:List Str) (b:Str):List Str:=ss.filter fun u=>(S.rows u).isSome&&decide (S.bas u=b)
noncomputable def qby (S:FS) (ss:List Str):List Str:=ss.filter fun u=>(S.rows u).isSome&&decide (S.bas u=u)
noncomputable def qey (S:FS) (ss:List Str):List Str:=ss.filter fun u=>(S.par u).isSome&&!(S.rows u).isSome
noncomputable def snL (g:Str->Option Str) (ss:List Str):List Str:=ss.filter fun u=>!(g u).isSome
section
variable {A:Str->Str->Prop} {f g:Str->Option Str} {S:FS} {ss:List Str}
theorem isS {o:Option α}:o.isSome=true↔o≠none:=by cases o<;>simp
theorem mem_cls:u∈qeG S ss b↔u∈ss/\S.rows u≠none/\S.bas u=b:=by
 unfold qeG;rw [yp,yX,isS,yQ]
theorem mem_bas:u∈qby S ss↔u∈ss/\S.rows u≠none/\S.bas u=u:=by
 unfold qby;rw [yp,yX,isS,yQ]
theorem mem_bar:u∈qey S ss↔u∈ss/\S.par u≠none/\S.rows u=none:=by
 unfold qey;rw [yp,yX,isS];cases S.rows u<;>simp
theorem mem_sn:u∈snL g ss↔u∈ss/\g u=none:=by
 unfold snL;rw [yp];cases g u<;>simp
theorem some_of {o:Option α} (h:o≠none):∃ r,o=some r:=by cases o with | none=>exact absurd rfl h | some r=>exact ⟨r,rfl⟩
theorem FI.evE (I:FI A f S) (hv:S.rows v≠none) (e:S.bas u=S.bas v):S.rows u≠none:=fun b=>by
 obtain ⟨r,c⟩:=some_of hv;obtain ⟨d,a⟩:=I.evb c;rw [I.own b] at e;rw [<- e,b] at a;cases a
theorem Fn.cls_odd (F:Fn A f S ss) (p:b∈qby S ss):(qeG S ss b).length % 2=1:=by
 obtain ⟨o,j,l⟩:=mem_bas.mp p;have c:b∈qeG S ss b:=mem_cls.mpr ⟨o,j,l⟩;have a:(qeG S ss b).Nodup:=F.nd.filter _
 have:=qfm (g:=f) _ (X:=(qeG S ss b).erase b) (yh _) (a.erase b) fun z hz=>by
  obtain ⟨s,hz⟩:=a.mem_erase_iff.mp hz;obtain ⟨t,m,n⟩:=mem_cls.mp hz;obtain ⟨_,u,d,h⟩:=F.fi.mat z (fun e=>s (e.symm.trans n));have i:=F.fi.evE m h;refine ⟨u,a.mem_erase_iff.mpr ⟨fun e=>?_,mem_cls.mpr ⟨F.es u i,i,h.trans n⟩⟩,d,Yh (F.gr.ir (F.gr.fa d)),F.gr.fs d⟩;obtain ⟨r,q⟩:=some_of j;rw [e] at d;exact m (F.fi.dwn b r z q l (F.gr.fs d)).1
 rw [xj c] at this;have:=xt c;omega
theorem Fn.count (F:Fn A f S ss):(qby S ss).length=(snL f ss).length+(qey S ss).length:=by
 have v:(qby S ss).Nodup:=F.nd.filter _
 have e:(qby S ss).length=((qby S ss).filter fun b=>!(f b).isSome).length+((qby S ss).filter fun b=>(f b).isSome).length:=by
  generalize qby S ss=l
  induction l with
  | nil=>rfl
  | cons x r ih =>
   rw [yT,yT,yC,ih];cases (f x).isSome
   ·rw [yF (show (!false)=true from rfl),yy Yn,yC];omega
   ·rw [yy (show ¬ (!true)=true by decide),yF (show true=true from rfl),yC];omega
 rw [e];have D:((qby S ss).filter fun b=>!(f b).isSome).length=(snL f ss).length:=xF
  (qdq (v.filter _) fun x c=>by
   obtain ⟨h1,d⟩:=yp.mp c;refine mem_sn.mpr ⟨(mem_bas.mp h1).1,?_⟩
   cases e:f x with
   | none=>rfl
   | some y=>rw [e] at d;cases d)
  (qdq (F.nd.filter _) fun x c=>by
   obtain ⟨h1,d⟩:=mem_sn.mp c;refine yp.mpr ⟨mem_bas.mpr ⟨h1,F.sng x h1 d,YJ fun z=>?_⟩,by rw [d];rfl⟩;obtain ⟨_,u,i,_⟩:=F.fi.mat x z;rw [d] at i;cases i)
 have E:((qby S ss).filter fun b=>(f b).isSome).length=(qey S ss).length:=by
  have inj:(((qby S ss).filter fun b=>(f b).isSome).map fun b=>(f b).getD "").Nodup:=by
   refine X4.mpr (xK (fun {a b} G g o e=>?_) (v.filter _));obtain ⟨x,c⟩:=YV.mp (yp.mp G).2;obtain ⟨y,w⟩:=YV.mp (yp.mp g).2;rw [c,w] at e;have n:x=y:=e;have k:=F.gr.fs c;rw [n,F.gr.fs w] at k;exact o (ym k).symm
  refine xF ?_ ?_
  ·have:=qdq inj (m:=qey S ss) fun q p=>?_
   rwa [ya] at this
   obtain ⟨b,g,rfl⟩:=Yb.mp p;obtain ⟨h1,d⟩:=yp.mp g;obtain ⟨x,c⟩:=YV.mp d;obtain ⟨L,B,C⟩:=mem_bas.mp h1;obtain ⟨r,H⟩:=some_of B;obtain ⟨j,z,rz,t,_⟩:=F.fi.dwn b r x H C c;rw [c];have I:S.par x≠none:=by rw [t];exact fun e=>by cases e
   show x∈qey S ss;exact mem_bar.mpr ⟨F.inn _ _ (F.gr.as (F.gr.fa c)),I,j⟩
  ·have:(qey S ss).length<=(((qby S ss).filter fun b=>(f b).isSome).map fun b=>(f b).getD "").length:=qdq (F.nd.filter _) fun q p=>?_
   rwa [ya] at this
   obtain ⟨M,J,K⟩:=mem_bar.mp p;obtain ⟨z,hz⟩:=some_of J;obtain ⟨_,_,y,r,j,t⟩:=F.fi.odd q z hz;have h:S.rows y≠none:=by rw [t];exact fun e=>by cases e
   refine Yb.mpr ⟨y,yp.mpr ⟨mem_bas.mpr ⟨F.es y h,h,YJ fun e=>?_⟩,by rw [F.gr.fs j];rfl⟩,by rw [F.gr.fs j];rfl⟩;obtain ⟨_,u,i,s⟩:=F.fi.mat y e;rw [F.gr.fs j] at i;cases i;exact F.fi.evE h s K
 rw [D,E]
theorem Fn.most (F:Fn A f S ss) (m:Gr A g):(snL f ss).length<=(ss.filter fun u=>!(g u).isSome&&(S.rows u).isSome).length:=by
 have n:∀ b∈qby S ss,∃ v∈qeG S ss b,g v=none\/∃ w,g v=some w/\w∈qey S ss:=fun b l=>YJ fun r=>by
  have D:=F.cls_odd l
  have:=qfm (g:=g) _ (X:=qeG S ss b) (yh _) (F.nd.filter _) fun v hv=>by
   obtain ⟨E,t,G⟩:=mem_cls.mp hv
   cases e:g v with
   | none=>exact absurd ⟨v,hv,.inl e⟩ r
   | some w =>
    have hw:=m.as (m.fa e);rcases F.cl v w t (m.fa e) with z | ⟨z1,z2⟩
    ·have s:=F.fi.evE t z;exact ⟨w,mem_cls.mpr ⟨F.es w s,s,z.trans G⟩,rfl,Yh (m.ir (m.fa e)),m.fs e⟩
    ·exact absurd ⟨v,hv,.inr ⟨w,e,mem_bar.mpr ⟨F.inn _ _ hw,z1,z2⟩⟩⟩ r
  omega
 obtain ⟨j,i⟩:∃ j:Str->Str,∀ b∈qby S ss,j b∈qeG S ss b/\(g (j b)=none\/∃ w,g (j b)=some w/\w∈qey S ss):=
  ⟨fun b=>@dite _ (b∈qby S ss) (Classical.propDecidable _) (fun h=>(n b h).choose) fun _=>b,fun b l=>by
   dsimp only;rw [dif_pos l];exact ⟨(n b l).choose_spec.1,(n b l).choose_spec.2⟩⟩
 have inj:∀ a∈qby S ss,∀ b∈qby S ss,j a=j b->a=b:=fun a o b l e=>by
  have h1:=(mem_cls.mp (i a o).1).2.2;have H:=(mem_cls.mp (i b l).1).2.2;rw [<- h1,<- H,e]
 have l:(qby S ss).Nodup:=F.nd.filter _
 have B:(qby S ss).length<=((ss.filter fun u=>!(g u).isSome&&(S.rows u).isSome)++qey S ss).length:=by
  rw [<- ya (f:=fun b=>(g (j b)).getD (j b))];refine qdq (X4.mpr (xK (fun {a b} o d q e=>?_) l)) fun x I=>?_
  ·have C:∀ c∈qby S ss,S.rows (j c)≠none:=fun c hc=>(mem_cls.mp (i c hc).1).2.1;rcases (i a o).2 with z | ⟨w,z,hw⟩<;>rcases (i b d).2 with y | ⟨u,y,hu⟩
   ·rw [z,y] at e;exact q (inj a o b d e)
   ·rw [z,y] at e;have p:j a=u:=e;exact C a o (by rw [p];exact (mem_bar.mp hu).2.2)
   ·rw [z,y] at e;have p:w=j b:=e;exact C b d (by rw [<- p];exact (mem_bar.mp hw).2.2)
   ·rw [z,y] at e;have p:w=u:=e;have k:=m.fs z;rw [p,m.fs y] at k;exact q (inj a o b d (ym k).symm)
  ·obtain ⟨b,d,rfl⟩:=Yb.mp I;obtain ⟨E,t,G⟩:=mem_cls.mp (i b d).1;rcases (i b d).2 with z | ⟨w,z,hw⟩
   ·rw [z];exact yO _ (yp.mpr ⟨E,by show (!(g (j b)).isSome&&(S.rows (j b)).isSome)=true;rw [z,isS.mpr t];rfl⟩)
   ·rw [z];exact yL _ hw
 rw [F.count,yt] at B;omega
end
theorem qdr:∀ {qs:List (Str×Str)},pt qs s=some t->(s,t)∈qs\/(t,s)∈qs
 | [],h=>by cases h
 | q::r,h=>by
  unfold pt at h;split at h
  ·rename_i e;cases h;exact .inl (by rw [<- e];simp)
  ·split at h
   ·rename_i e;cases h;exact .inr (by rw [<- e];simp)
   ·rcases qdr h with z | z
    ·exact .inl (yz _ z)
    ·exact .inr (yz _ z)
theorem qfU:∀ {qs:List (Str×Str)},(qw qs).Nodup->∀ {a b:Str},(a,b)∈qs\/(b,a)∈qs->pt qs a=some b
 | [],_,a,b,m=>by rcases m with z | z<;>cases z
 | q::r,h,a,b,m=>by
  have f:(q.1::q.2::qw r).Nodup:=h;obtain ⟨i,n⟩:=yo.mp f;obtain ⟨o,p⟩:=yo.mp n;have inr:∀ {x y:Str},(x,y)∈r->x∈qw r/\y∈qw r:=fun d=>⟨xT.mpr ⟨_,d,by simp⟩,xT.mpr ⟨_,d,by simp⟩⟩;unfold pt
  have c:(a,b)∈r\/(b,a)∈r->(if q.1=a then some q.2 else if q.2=a then some q.1 else pt r a)=some b:=fun l=>by
   have j:a∈qw r:=l.elim (fun z=>(inr z).1) fun z=>(inr z).2;rw [yy (fun z=>i (by rw [z];exact yz _ j)),yy (fun z=>o (by rw [z];exact j))];exact qfU p l
  rcases m with z | z
  ·rcases yv.mp z with z | z
   ·subst z;rw [yF rfl]
   ·exact c (.inl z)
  ·rcases yv.mp z with z | z
   ·subst z;have g:b≠a:=fun e=>i (by show b∈a::_;rw [e];exact yN);rw [yy g,yF rfl]
   ·exact c (.inr z)
theorem qeh (h:(qw qs).Nodup):pt qs a=some b↔(a,b)∈qs\/(b,a)∈qs:=⟨qdr,qfU h⟩
theorem qei (h:(qw qs).Nodup):pt qs a=some b↔pt qs b=some a:=by
 rw [qeh h,qeh h,Or.comm]
theorem qej {x y:Option Str} (h:∀ b,x=some b↔y=some b):x=y:=by
 cases x with
 | none=>cases y with
  | none=>rfl
  | some b=>exact absurd ((h b).mpr rfl) (fun z=>by cases z)
 | some a=>exact ((h a).mp rfl).symm
theorem uE:FnScope ["self","place","row"] ["self","place","row"] (qg jP):=fS
structure Fo where
 x:Addr
 b:Addr
 dp:Addr
 dr:Addr
 da:Addr
 ds:Addr
 dg:Addr
 dw:Addr
 ex:List Addr
noncomputable def Fo.six (a:Fo):List Addr:=[a.x,a.dr,a.da,a.ds,a.dg,a.dw]
noncomputable def Fo.all (a:Fo):List Addr:=a.six++a.ex
noncomputable def Fo.tab (a:Fo) (lo:V):List (Str×V):=[("board",.ref a.b),("partners",.ref a.dp),("rows",.ref a.dr),("parents",.ref a.da),("bases",.ref a.ds),("rings",.ref a.dg),("waiting",.ref a.dw),("longer",lo)]
def Bx (l:List Addr) (H H':Hp):Prop:=∀ c o,c∉l->H c=some o->H' c=some o
def RowV (H:Hp) (l:List Addr) (o:Option V):Option (List Str)->Prop
 | none=>o=none
 | some r=>∃ t,o=some (.ref t)/\H t=some (.lst (r.map V.str))/\t∉l
def FoO (b:Addr) (H:Hp) (a:Fo) (lo:V):Prop:=∃ dx fs,H a.x=some (.ins b dx fs)/\fs.length<=9/\(lo=.non->fs.length<=8)/\(∀ f v,(f,v)∈a.tab lo->fs.lookup f=some v)/\∀ f,f∉fAtt->fs.lookup f=none
structure FoA (cf cw:Addr) (H0 H:Hp) (a:Fo) (ss:List Str) (ns:List Nat) (qs:List (Str×Str)) (S:FS) (bs dn wt:List Str) (lo:V):Prop where
 sm:L2.Same H0 H
 web:WebAt cw H0 a.b ss ns
 prt:H0 a.dp=some (.dK (prK qs))
 fr:∀ c∈a.six,H0 c=none
 nd:[a.dr,a.da,a.ds,a.dg,a.dw].Nodup
 exf:∀ c∈a.ex,H0 c=none/\c∉a.six/\∃ o,H c=some o
 obj:FoO cf H a lo
 row:∃ kvs,H a.dr=some (.dK kvs)/\kvs.length<=(dn++wt).length/\∀ s,RowV H a.all (jG kvs (.inr s:Key)) (S.rows s)
 par:∃ kvs,H a.da=some (.dK kvs)/\(∃ po:List Str,kvs.length<=po.length/\po.Nodup/\∀ u∈po,u∈ss/\S.par u≠none)/\∀ s,jG kvs (.inr s:Key)=(S.par s).map V.str
 bas:∃ kvs,H a.ds=some (.dK kvs)/\kvs.length<=bs.length/\∀ s∈bs,jG kvs (.inr s:Key)=some (.str (S.bas s))
 rng:∃ xs,H a.dg=some (.lst xs)/\xs.length<=(dn++wt).length
 wai:H a.dw=some (.lst (wt.map V.str))
 evn:(dn++wt).Nodup
 evi:∀ v,v∈dn++wt↔S.rows v≠none
 evs:∀ v∈dn++wt,v∈ss
theorem RowV.mono {l:List Addr} {o:Option V} {r:Option (List Str)} (h:RowV H l o r) {m:List Addr} (k:Bx m H H') (d:∀ c∈m,c∈l):RowV H' l o r:=by
 cases r with
 | none=>exact h
 | some r=>obtain ⟨t,h1,b,a⟩:=h;exact ⟨t,h1,k _ _ (fun z=>a (d _ z)) b,a⟩
theorem Fo.sub {a:Fo}:∀ c∈a.six,c∈a.all:=fun c h=>yO _ h
theorem Bx.of {l:List Addr} (s:L2.Same H H'):Bx l H H':=fun c o _ e=>s c o e
theorem Bx.trans {l:List Addr} {d:Hp} (a:Bx l H H') (b:Bx l H' d):Bx l H d:=fun c o n e=>b c o n (a c o n e)
section
variable {cf cw:Addr} {H0 H H':Hp} {a:Fo} {ss:List Str} {ns:List Nat} {qs:List (Str×Str)} {S S':FS} {bs dn wt:List Str} {lo:V}
theorem FoA.same (h:FoA cf cw H0 H a ss ns qs S bs dn wt lo) (s:L2.Same H H'):FoA cf cw H0 H' a ss ns qs S bs dn wt lo:=by
 obtain ⟨dx,fs,h1,i⟩:=h.obj;obtain ⟨j,r,t,u⟩:=h.row;obtain ⟨m,p,q⟩:=h.par;obtain ⟨n,b,d⟩:=h.bas;obtain ⟨xs,f,g⟩:=h.rng;exact ⟨h.sm.trans s,h.web,h.prt,h.fr,h.nd,fun c hc=>⟨(h.exf c hc).1,(h.exf c hc).2.1,(h.exf c hc).2.2.elim fun o e=>⟨o,s _ _ e⟩⟩,⟨dx,fs,s _ _ h1,i⟩,⟨j,s _ _ r,t,fun z=>(u z).mono (Bx.of (l:=[]) s) (fun c h=>by cases h)⟩,⟨m,s _ _ p,q⟩,⟨n,s _ _ b,d⟩,⟨xs,s _ _ f,g⟩,s _ _ h.wai,h.evn,h.evi,h.evs⟩
theorem FoA.six (h:FoA cf cw H0 H a ss ns qs S bs dn wt lo):∀ c∈a.six,∃ o,H c=some o:=fun c hc=>by
 obtain ⟨dx,fs,h1,_⟩:=h.obj;obtain ⟨g,f,_⟩:=h.row;obtain ⟨i,e,_⟩:=h.par;obtain ⟨j,b,_⟩:=h.bas;obtain ⟨xs,d,_⟩:=h.rng;simp only [Fo.six,yv,yG,Yl] at hc;rcases hc with rfl | rfl | rfl | rfl | rfl | rfl
 ·exact ⟨_,h1⟩
 ·exact ⟨_,f⟩
 ·exact ⟨_,e⟩
 ·exact ⟨_,b⟩
 ·exact ⟨_,d⟩
 ·exact ⟨_,h.wai⟩
theorem FoA.new (h:FoA cf cw H0 H a ss ns qs S bs dn wt lo) {c:Addr} (e:H c=none):c∉a.six:=fun z=>by
 obtain ⟨o,k⟩:=h.six c z;rw [e] at k;cases k
theorem FoA.sep (h:FoA cf cw H0 H a ss ns qs S bs dn wt lo):a.six.Nodup:=by
 obtain ⟨dx,fs,h1,_⟩:=h.obj;obtain ⟨f,e,_⟩:=h.row;obtain ⟨g,d,_⟩:=h.par;obtain ⟨i,b,_⟩:=h.bas;obtain ⟨xs,c,_⟩:=h.rng;refine yo.mpr ⟨fun z=>?_,h.nd⟩;simp only [yv,yG,Yl] at z;rcases z with z | z | z | z | z
 ·rw [z,e] at h1;cases h1
 ·rw [z,d] at h1;cases h1
 ·rw [z,b] at h1;cases h1
 ·rw [z,c] at h1;cases h1
 ·rw [z,h.wai] at h1;cases h1
theorem FoO.eq (h:FoO cf H a lo) (e:H' a.x=H a.x):FoO cf H' a lo:=by
 obtain ⟨dx,fs,h1,b⟩:=h;exact ⟨dx,fs,e.trans h1,b⟩
theorem Bx.upd {l:List Addr} {c:Addr} (k:Bx l H H') (hc:c∈l):Bx l H (upd H' c o):=fun d u n e=>by
 rw [qf (fun z=>n (by rw [z];exact hc))];exact k d u n e
noncomputable def Fo.add (a:Fo) (c:Addr):Fo:={ a with ex:=c::a.ex }
theorem FoA.add (h:FoA cf cw H0 H a ss ns qs S bs dn wt lo) {c:Addr} (e:H c=none):FoA cf cw H0 (upd H c o) (a.add c) ss ns qs S bs dn wt lo:=by
 have g:=h.same (qF (Sr H) (o:=o) e);obtain ⟨f,q,w,x⟩:=g.row;obtain ⟨n,v,_,A⟩:=h.row
 have s:n=f:=by
  have:=qF (Sr H) (o:=o) e _ _ v;rw [q] at this;exact (HO.dK.inj (ym this)).symm
 subst s;refine ⟨g.sm,g.web,g.prt,g.fr,g.nd,fun d hd=>?_,g.obj,⟨n,q,w,fun z=>?_⟩,g.par,g.bas,g.rng,g.wai,g.evn,g.evi,g.evs⟩
 ·rcases yv.mp hd with rfl | hd
  ·exact ⟨h.sm.free e,h.new e,_,qb⟩
  ·exact g.exf d hd
 ·have b:=x z;have j:=A z
  cases i:S.rows z with
  | none=>rw [i] at b;exact b
  | some r =>
   rw [i] at b j;obtain ⟨t,f,u,p⟩:=b;obtain ⟨t',l,m,_⟩:=j;rw [f] at l;cases l;refine ⟨t,f,u,fun y=>?_⟩;rcases yD.mp y with y | y
   ·exact p (yO _ y)
   ·rcases yv.mp y with y | y
    ·rw [y,e] at m;cases m
    ·exact p (yL _ y)
theorem FoA.updE (h:FoA cf cw H0 H a ss ns qs S bs dn wt lo) {c:Addr} (hc:c∈a.ex):FoA cf cw H0 (upd H c o) a ss ns qs S bs dn wt lo:=by
 obtain ⟨l,p,_⟩:=h.exf c hc;have ne:∀ {d:Addr},d∈a.six->upd H c o d=H d:=fun b=>qf fun z=>p (by rw [<- z];exact b);obtain ⟨q,w,x,A⟩:=h.row;obtain ⟨r,t,v⟩:=h.par;obtain ⟨s,f,g⟩:=h.bas;obtain ⟨xs,i,j⟩:=h.rng;refine ⟨qaj h.sm l,h.web,h.prt,h.fr,h.nd,fun d b=>⟨(h.exf d b).1,(h.exf d b).2.1,by by_cases z:d=c;exact ⟨_,by rw [z,qb]⟩;rw [qf z];exact (h.exf d b).2.2⟩,h.obj.eq (ne (by simp [Fo.six])),⟨q,(ne (by simp [Fo.six])).trans w,x,fun z=>(A z).mono (m:=[c]) (fun d u n e=>by rw [qf (fun y=>n (by rw [y];simp))];exact e) fun d b=>by rw [yA.mp b];exact yL _ hc⟩,⟨r,(ne (by simp [Fo.six])).trans t,v⟩,⟨s,(ne (by simp [Fo.six])).trans f,g⟩,⟨xs,(ne (by simp [Fo.six])).trans i,j⟩,(ne (by simp [Fo.six])).trans h.wai,h.evn,h.evi,h.evs⟩
theorem FoA.drop (h:FoA cf cw H0 H a ss ns qs S bs dn wt lo) {l:List Addr} (f:∀ c∈l,c∈a.ex):FoA cf cw H0 H { a with ex:=l } ss ns qs S bs dn wt lo:=by
 obtain ⟨d,j,m,n⟩:=h.row;refine ⟨h.sm,h.web,h.prt,h.fr,h.nd,fun c hc=>h.exf c (f c hc),h.obj,⟨d,j,m,fun z=>?_⟩,h.par,h.bas,h.rng,h.wai,h.evn,h.evi,h.evs⟩;have b:=n z
 cases e:S.rows z with
 | none=>rw [e] at b;exact b
 | some r =>
  rw [e] at b;obtain ⟨t,d,g,i⟩:=b;exact ⟨t,d,g,fun y=>i ((yD.mp y).elim (fun z=>yO _ z) fun z=>yL _ (f _ z))⟩
theorem FoA.newA (h:FoA cf cw H0 H a ss ns qs S bs dn wt lo) {c:Addr} (e:H c=none):c∉a.all:=fun z=>by
 rcases yD.mp z with z | z
 ·exact h.new e z
 ·obtain ⟨o,k⟩:=(h.exf c z).2.2;rw [e] at k;cases k
theorem FoA.few (h:FoA cf cw H0 H a ss ns qs S bs dn wt lo):(dn++wt).length<=ss.length:=zq h.evn h.evs
end
noncomputable def FS.setRow (S:FS) (p:Str) (r:List Str):FS:=⟨fun s=>if s=p then some r else S.rows s,S.par,S.bas⟩
inductive spRe (cc:Nat->Addr) (cw:Addr) (vs:List V) (H:Hp) (Q:VK) (E:XK):Prop|mk (H0:Hp) (a:Fo) (ss:List Str) (ns:List Nat) (qs:List (Str×Str)) (S:FS) (bs dn wt:List Str) (lo:V) (p:Str) (t:Addr) (r:List Str) (_:vs=[.ref a.x,.str p,.ref t]) (_:FoA (cc 9) cw H0 H a ss ns qs S bs dn wt lo) (_:ss.length<=14) (_:H t=some (.lst (r.map V.str))) (_:t∉a.all) (_:p∈ss) (_:S.rows p=none) (_:∀ H',FoA (cc 9) cw H0 H' a ss ns qs (S.setRow p r) bs dn (wt++[p]) lo->Bx a.six H H'->(∀ o,H a.dg=some o->H' a.dg=some o)->Q .non H')
inductive spBd (cc:Nat->Addr) (cw:Addr) (vs:List V) (H:Hp) (Q:VK) (E:XK):Prop|mk (H0:Hp) (a:Fo) (ss:List Str) (ns:List Nat) (qs:List (Str×Str)) (S:FS) (dn wt:List Str) (lo:V) (p:Str) (r l:List Str) (A:Str->Str->Prop) (_:vs=[.ref a.x,.str p]) (_:FoA (cc 9) cw H0 H a ss ns qs S ss dn wt lo) (_:ss.length<=14) (_:FI A (pt qs) S) (_:S.rows p=some r) (_:Ch (pt qs) S (S.bas p) l) (_:l.length<=14) (_:∀ (t:Addr) (H':Hp),L2.Same H H'->H t=none->H' t=some (.lst (l.map V.str))->Q (.ref t) H')
section
variable {P:Program} {w:World} {K:W.Frag} {mg:Str->Option Value} {base:Heap} {cc:Nat->Addr} {cw:Addr} {H0 H:Hp} {a:Fo} {ss:List Str} {ns:List Nat} {qs:List (Str×Str)} {S:FS} {bs dn wt:List Str} {lo:V}
theorem FoO.rd {Q:V->Prop} {f:Str} {v:V} (h:FoO (cc 9) H a lo) (T:Txt K mg cc cw) (i:Nat) (e:(a.tab lo)[i]?=some (f,v)) (q:Q v):∃ (c C dx:Addr) (fs:List (Str×V)) (u:V),V.ref a.x=.ref c/\H c=some (.ins C dx fs)/\Cls K C/\NoAttr K C f/\fs.lookup f=some u/\Q u:=by
 obtain ⟨dx,fs,h1,_,_,b,_⟩:=h;refine ⟨a.x,cc 9,dx,fs,v,rfl,h1,T.fcl,T.fa f ?_,b f v (ye e),q⟩;have:((a.tab lo).map Prod.fst)[i]?=some f:=by rw [yd,e];rfl
 exact ye (l:=fAtt) (i:=i) this
theorem ok_re (F:Fun K "reach" "Forest.reach" jP f fd) (T:Txt K mg cc cw):FnOk P w K mg base CX0 1 f fd ["self","place","row"] (spRe cc cw):=by
 refine F.ok uE fun _ _ _ _ H vs Q E U h=>?_
 ·obtain ⟨H0,a,ss,ns,qs,S,bs,dn,wt,lo,p,t,r,rfl,h,R,W,d,s,m,q⟩:=h;have X:=jV U;have b:=h.few;have l:p∉dn++wt:=fun z=>(h.evi p).mp z m;refine ⟨_,(qc (jv (pv 2) (jy (qA (K:=K) rfl (pv 0) rfl) (pv 1) (jB X)))
 (qe (qI (qbI (K:=K) rfl yR Ye Yg qM (qA (K:=K) rfl (pv 0) rfl) (qa (pv 1) qd))))),?_⟩
  ext;obtain ⟨⟨n1,n2,n3,n4,n5⟩,⟨n6,n7,C,D⟩,⟨aa,ac,A⟩,⟨ad,B⟩,g⟩:=(by simpa [Fo.six] using h.sep:(¬a.x=a.dr/\¬a.x=a.da/\¬a.x=a.ds/\¬a.x=a.dg/\¬a.x=a.dw)/\(¬a.dr=a.da/\¬a.dr=a.ds/\¬a.dr=a.dg/\¬a.dr=a.dw)/\(¬a.da=a.ds/\¬a.da=a.dg/\¬a.da=a.dw)/\(¬a.ds=a.dg/\¬a.ds=a.dw)/\¬a.dg=a.dw);obtain ⟨j,r1,r2,r3⟩:=h.row;obtain ⟨Z,p1,p2,p3⟩:=h.par;obtain ⟨ks,J,L,M⟩:=h.bas;obtain ⟨xs,N,O⟩:=h.rng;refine .inl (h.obj.rd T 2 rfl ?_);ext;refine .inr ⟨a.dr,_,rfl,DPut.k (k:=Sum.inr p) r1 (by rw [YL];omega),?_⟩;have G:FoO (cc 9) (upd H a.dr (.dK (zc j (Sum.inr p) (.ref t)))) a lo:=h.obj.eq (qf n1);have I:upd H a.dr (.dK (zc j (Sum.inr p) (.ref t))) a.dw=some (.lst (wt.map V.str)):=by rw [qf (Yh D)];exact h.wai
  ext;refine .inl (G.rd T 6 rfl ?_);refine ⟨.inl ⟨rfl,_,.of I⟩,?_⟩;ext;refine ⟨a.dw,_,_,rfl,rfl,I,by rw [ya];exact qi (by rw [yt] at b;omega),?_⟩;have u:∀ {c:Addr} {o o':HO},c∉a.six->upd (upd H a.dr o) a.dw o' c=H c:=fun hc=>by rw [qf (fun z=>hc (by rw [z];simp [Fo.six])),qf (fun z=>hc (by rw [z];simp [Fo.six]))]
  have i:Bx a.six H (upd (upd H a.dr (.dK (zc j (Sum.inr p) (.ref t)))) a.dw (.lst (wt.map V.str++[.str p]))):=fun c o n e=>by rw [u n];exact e
  refine q _ ⟨qaj (qaj h.sm (h.fr _ (by simp [Fo.six]))) (h.fr _ (by simp [Fo.six])),h.web,h.prt,h.fr,h.nd,fun c hc=>⟨(h.exf c hc).1,(h.exf c hc).2.1,(h.exf c hc).2.2.elim fun o e=>⟨o,i _ _ (h.exf c hc).2.1 e⟩⟩,G.eq (qf n5),⟨_,by rw [qf D,qb],?_,fun z=>?_⟩,⟨Z,by rw [qf A,qf (Yh n6)];exact p1,p2,p3⟩,⟨ks,by rw [qf B,qf (Yh n7)];exact J,L,M⟩,⟨xs,by rw [qf g,qf (Yh C)];exact N,?_⟩,by rw [qb,yE];rfl,?_,fun v=>?_,fun v hv=>?_⟩ i fun o e=>by (rw [qf g,qf (Yh C)];exact e)
  ·have:=jI j (Sum.inr p:Key) (.ref t);rw [<- Ym,yt (bs:=[p])];show _<=_+1;omega
  ·unfold FS.setRow;dsimp only;rw [qaS];by_cases e:z=p
   ·subst e;rw [yF rfl,yF rfl];exact ⟨t,rfl,i _ _ (fun y=>d (Fo.sub _ y)) W,d⟩
   ·rw [yy (fun y=>e (xk y)),yy e];exact (r3 z).mono i Fo.sub
  ·rw [<- Ym,yt (bs:=[p])];exact kI O
  ·rw [<- Ym];exact Yi.mpr ⟨h.evn,XH _ _,fun x u y Y e=>l (by rw [<- yA.mp Y,<- e];exact u)⟩
  ·rw [<- Ym,yD,yA,h.evi];unfold FS.setRow;dsimp only;by_cases e:v=p
   ·subst e;rw [yF rfl];exact ⟨(fun _ z=>by cases z),fun _=>.inr rfl⟩
   ·rw [yy e];exact ⟨fun z=>z.resolve_right e,.inl⟩
  ·rw [<- Ym] at hv;rcases yD.mp hv with z | z
   ·exact h.evs v z
   ·rw [yA.mp z];exact s
end
theorem Kt:FnScope ["self","place","bases","below"] ["self","place"] (qg qL):=fS
theorem atI_last:atI ((xs++[c]).map V.str) (-1)=some (.str c):=by
 have e:ixN ((xs++[c]).map V.str).length (-1)=some xs.length:=by
  unfold ixN;rw [yy (by omega),yF (by rw [ya,yt];simp;omega)]
  congr 1
  rw [ya,yt];simp only [yC,YX];omega
 unfold atI;rw [e];show ((xs++[c]).map V.str)[xs.length]?=_;rw [yd,yJ (yh _),k7];rfl
theorem Ch.cases' {f:Str->Option Str} {t:List Str} (h:Ch f S b (b::t)):(f b=none/\t=[])\/∃ q z,f b=some q/\S.par q=some z/\Ch f S (S.bas z) t:=by
 generalize e:b::t=l at h
 cases h with
 | root h=>cases e;exact .inl ⟨h,rfl⟩
 | step h1 h2 h3=>cases e;exact .inr ⟨_,_,h1,h2,h3⟩
theorem in_prK {d:Addr} {Q:VK} (a:H d=some (.dK (prK qs))) (q:Q (.bl (pt qs s).isSome) H):qex K false (.str s) (.ref d) H Q:=by
 refine .inr (.inl ⟨d,_,rfl,DGet.k (k:=Sum.inr s) a,?_⟩);rw [jL,yy (by decide),Xm];exact q
theorem qdI {d:Addr} {v:V} {Q:VK} (a:H d=some (.dK kvs)) (e:jG kvs (.inr s:Key)=some v) (q:Q v H):qf2 K (.ref d) (.str s) H Q:=.inr ⟨d,v,rfl,by rw [<- e];exact DGet.k (k:=Sum.inr s) a,q⟩
theorem ok_bd (F:Fun K "bases_down_from" "Forest.bases_down_from" qL f fd) (T:Txt K mg cc cw):FnOk P w K mg base CX0 1 f fd ["self","place"] (spBd cc cw):=by
 refine F.ok Kt fun _ _ _ _ H vs Q E hr h=>?_
 ·obtain ⟨H0,a,ss,ns,qs,S,dn,wt,lo,p,r,l,B,rfl,h,ad,I,hp,y,aa,q⟩:=h;have n:=jV hr;refine ⟨_,(qc (qk (i:=2) Kt.nd rfl (yK rfl) (qJ (qa (qr (qt (K:=K) rfl n) (qA (K:=K) rfl (pv 0) rfl) (pv 1) (fun _ _=>rfl)) qd)))
 (qc (qaR yU (qp (zw (K:=K) rfl n) (qr (qt (K:=K) rfl n) (pv 2) (qbb qaN qh) (fun _ _=>rfl)) (qA (K:=K) rfl (pv 0) rfl) (by with_unfolding_all rfl))
 (qc (qk (i:=3) Kt.nd rfl (yK rfl) (qr (qt (K:=K) rfl n) (qA (K:=K) rfl (pv 0) rfl) (qr (qt (K:=K) rfl n) (qA (K:=K) rfl (pv 0) rfl) (qr (qt (K:=K) rfl n) (pv 2) (qbb qaN qh) (fun _ _=>rfl)) (fun _ _=>rfl)) (fun _ _=>rfl)))
 (qe (qI (qbI (K:=K) rfl yR Ye Yg qM (pv 2) (qa (qr (qt (K:=K) rfl n) (qA (K:=K) rfl (pv 0) rfl) (pv 3) (fun _ _=>rfl)) qd))))))
 (qe (qj (pv 2))))),?_⟩
  have u:∀ {v:Str} {r:List Str},S.rows v=some r->v∈ss:=fun e=>h.evs _ ((h.evi _).mpr (by rw [e];exact fun z=>by cases z));obtain ⟨ks,b1,b2,b3⟩:=h.bas;ext;refine .inl (h.obj.rd T 4 rfl ?_);ext;refine qdI b1 (b3 p (u hp)) ?_;ext;refine ⟨by show 1<=sizeLine;decide,fun bl j=>?_⟩;have s1:=qF (Sr H) (o:=.lst [.str (S.bas p)]) j;have e1:upd H bl (.lst [.str (S.bas p)]) bl=some (.lst (([]++[S.bas p]).map V.str)):=qb;generalize upd H bl (.lst [.str (S.bas p)])=H1 at s1 e1;ext;obtain ⟨W,g⟩:∃ W:Nat->L2.St->Hp->Prop,W=fun m σ J=>∃ (l1 l2:List Str) (c:Str) (y3:Option V),l=l1++c::l2/\σ=[some (.ref a.x),some (.str p),some (.ref bl),y3]/\L2.Same H J/\J bl=some (.lst ((l1++[c]).map V.str))/\m=l2.length:=⟨_,rfl⟩;obtain ⟨t0,R⟩:=y.ne;refine ⟨W,⟨t0.length,by rw [g];exact ⟨[],t0,_,_,R,rfl,s1,e1,rfl⟩⟩,fun m σ J hW=>?_⟩;rw [g] at hW;obtain ⟨l1,l2,c,y3,M,rfl,sJ,s,hm⟩:=hW;obtain ⟨rc,_,Y,U,A,_⟩:=y.up I hp rfl M;have d:=h.same sJ;have D:=d.sm _ _ h.prt;ext;refine ⟨1,rfl,?_⟩;refine .inl (za s (v:=.str c) atI_last ?_);ext;refine .inl (d.obj.rd T 1 rfl ?_);refine in_prK D ?_;rcases A.cases' with ⟨C,rfl⟩ | ⟨q',z,C,G,X⟩
  ·rw [C];refine ⟨_,rfl,qQ (fun h=>by cases h) fun _=>?_⟩;ext;exact q bl J sJ j (by rw [M];exact s)
  ·rw [C];refine ⟨_,rfl,qag ⟨fun L H'=>∃ m',m'<m/\W m' L H',fun L H' z=>z,?_⟩⟩;obtain ⟨_,z',rz,b,Z,_⟩:=I.dwn c rc q' Y U C;rw [G] at b;cases b;obtain ⟨ka,p1,p2,p3⟩:=d.par;obtain ⟨ae,N,ac,O⟩:=d.bas;ext;refine .inl (d.obj.rd T 3 rfl ?_);ext;refine .inl (d.obj.rd T 1 rfl ?_);ext;refine ⟨1,rfl,?_⟩;refine .inl (za s (v:=.str c) atI_last ?_);refine qdI D (by rw [jL,C];rfl) ?_;refine qdI p1 (by rw [p3,G];rfl) ?_;ext;refine ⟨.inl ⟨rfl,_,.of s⟩,?_⟩;ext;refine .inl (d.obj.rd T 4 rfl ?_);ext;refine qdI N (O z (u Z)) ?_;ext;refine ⟨bl,_,_,rfl,rfl,s,by rw [ya];exact qi (by have:=congrArg List.length M;rw [yt,yC] at this;rw [yt];simp only [yC,YX];omega),?_⟩;obtain ⟨t1,t⟩:=X.ne;rw [g];refine ⟨t1.length,by rw [hm,t];simp,l1++[c],t1,S.bas z,_,by rw [M,t];simp,rfl,qaj sJ j,by rw [qb,yE (l₁:=l1++[c])];rfl,rfl⟩
theorem Ko:FnScope ["self","one","other","bases","side","base","place","row"] ["self","one","other","bases"] (qg qW):=fS
structure RR (f:Str->Option Str) (S S':FS) (v w:Str) (cs:List Str):Prop where
 par:S'.par=S.par
 bas:S'.bas=S.bas
 old:∀ u r,S.rows u=some r->S'.rows u=some r
 new:∀ u r,S'.rows u=some r->S.rows u=some r\/∃ c∈cs,f c=some u/\NewRow S v w u r
 all:∀ c∈cs,∀ q,f c=some q->∃ r,S'.rows q=some r
inductive spRr (cc:Nat->Addr) (cw:Addr) (vs:List V) (H:Hp) (Q:VK) (E:XK):Prop|mk (H0:Hp) (a:Fo) (ss:List Str) (ns:List Nat) (qs:List (Str×Str)) (S:FS) (dn wt:List Str) (lo:V) (v w:Str) (lb:Addr) (cs rv rw:List Str) (_:vs=[.ref a.x,.str v,.str w,.ref lb]) (_:FoA (cc 9) cw H0 H a ss ns qs S ss dn wt lo) (_:ss.length<=14) (_:H lb=some (.lst (cs.map V.str))) (_:lb∉a.six) (_:S.rows v=some rv) (_:S.rows w=some rw) (_:rv.length<=14) (_:rw.length<=14) (_:rv.Nodup) (_:cs.Nodup) (_:cs.length<=14) (_:(qw qs).Nodup) (_:(∀ c∈cs,∃ q rz t,pt qs c=some q/\S.rows q=none/\q∈ss/\rv=rz++q::t)) (_:∀ (t:Addr) (sd more:List Str) (H':Hp) (S':FS),FoA (cc 9) cw H0 H' (a.add t) ss ns qs S' ss dn (wt++more) lo->Bx a.six H H'->H t=none->H' t=some (.lst (sd.map V.str))->(∀ u,u∈sd↔∃ c∈cs,u=c\/pt qs c=some u)->sd.length=2*cs.length->more.length=cs.length->RR (pt qs) S S' v w cs->(∀ o,H a.dg=some o->H' a.dg=some o)->Q (.ref t) H')
theorem qcT {t:List Str} {q:Str} (a:(rz++q::t).Nodup):(rz++q::t).idxOf q=rz.length:=by
 exact qcC a (by rw [yJ (yh _),k7];rfl)
theorem qeH {a b:Addr} {xs:List V} {Q:VK} (c:G a=some (.lst xs)) (d:G b=some (.lst ys)) (hl:xs.length+ys.length<=1000) (q:∀ p,G p=none->Q (.ref p) (upd G p (.lst (xs++ys)))):qdD K (.ref a) (.ref b) G Q:=.inl ⟨a,b,_,_,rfl,rfl,c,d,yi hl (by decide),q⟩
theorem ok_rr (F:Fun K "reach_round" "Forest.reach_round" qW f fd) (T:Txt K mg cc cw) (Kw:MethOk P w K mg base CX0 1 (cc 9) "reach" ["self","place","row"] (spRe cc cw)):FnOk P w K mg base CX0 2 f fd ["self","one","other","bases"] (spRr cc cw):=by
 refine F.ok Ko fun _ _ _ _ H vs Q E hr h=>?_
 ·obtain ⟨H0,a,ss,ns,qs,S,dn,wt,lo,v,w,lb,U,rv,g,rfl,h,aq,I,ba,hv,hw,bc,bj,al,ax,bg,ak,ay,q⟩:=h;have hu:=jV hr;refine ⟨_,(qc (qk (i:=4) Ko.nd rfl (yK rfl) (qJ qd))
 (qc (jf yU rfl (qU (K:=K) rfl (pv 3)) (qq (i:=5) Ko.nd rfl (yK rfl))
 (qc (qk (i:=6) Ko.nd rfl (yK rfl) (qr (qt (K:=K) rfl hu) (qA (K:=K) rfl (pv 0) rfl) (pv 5) (fun _ _=>rfl)))
 (qc (qk (i:=7) Ko.nd rfl (yK rfl) (qr (qt (K:=K) rfl hu) (qA (K:=K) rfl (pv 0) rfl) (pv 1) (fun _ _=>rfl)))
 (qc (qI (qD Kw (hmR hr) (pv 0) (qa (pv 6) (qa (qx (jU (K:=K) rfl) (qr (qt (K:=K) rfl hu) (qA (K:=K) rfl (pv 0) rfl) (pv 2) (fun _ _=>rfl)) (qe1 (K:=K) rfl (jA (qd3 (K:=K) rfl) (pv 7) (jH (qbI (K:=K) rfl yR xR XI (qcR (K:=K) rfl) (pv 7) (qa (pv 6) qd))) j4) (jH (qbb qaN qh)))) qd))))
 (qe (qI (qbI (K:=K) rfl yR PySem.F.slot_list_extend PySem.F.type_list_extend qbK (pv 4) (qa (qJ (qa (pv 5) (qa (pv 6) qd))) qd))))))))
 (qe (qj (pv 4))))),?_⟩
  ext;refine ⟨by show 0<=sizeLine;decide,fun l s=>?_⟩;have s1:=qF (Sr H) (o:=.lst []) s;have h1:=h.add (o:=.lst []) s;have Z:upd H l (.lst []) l=some (.lst (([]:List Str).map V.str)):=qb;have bm:lb≠l:=fun z=>by rw [z,s] at I;cases I
  generalize upd H l (.lst [])=H1 at s1 h1 Z;ext;obtain ⟨LI,B⟩:∃ LI:Nat->L2.St->Hp->Prop,LI=fun i σ J=>∃ (S':FS) (b G:List Str) (y5 y6 y7:Option V),σ=[some (.ref a.x),some (.str v),some (.str w),some (.ref lb),some (.ref l),y5,y6,y7]/\FoA (cc 9) cw H0 J (a.add l) ss ns qs S' ss dn (wt++b) lo/\Bx a.six H J/\J l=some (.lst (G.map V.str))/\(∀ u,u∈G↔∃ c∈U.take i,u=c\/pt qs c=some u)/\G.length=2*i/\b.length=i/\RR (pt qs) S S' v w (U.take i)/\∀ o,H a.dg=some o->J a.dg=some o:=⟨_,rfl⟩;refine .inl ⟨⟨_,.of (s1 _ _ I)⟩,qT (xs:=U.map V.str) LI (by rw [B];exact ⟨S,[],[],_,_,_,rfl,by rw [Yd];exact h1,Bx.of s1,Z,fun u=>by simp,rfl,rfl,⟨rfl,rfl,fun _ _ e=>e,fun _ _ e=>.inl e,fun c hc=>by simp at hc⟩,fun o e=>s1 _ _ e⟩) (fun i σ J _ R=>?_) (fun i y σ J hy R=>?_) fun σ J R=>?_⟩
  ·rw [B] at R;obtain ⟨S',b,G,y5,y6,y7,rfl,A,X,_⟩:=R;exact .of (X _ _ ba I)
  ·rw [B] at R;obtain ⟨S',b,G,y5,y6,y7,rfl,A,X,eJ,M,m,L,D,W⟩:=R;rw [yd] at hy;obtain ⟨c,hc,rfl⟩:=yn.mp hy;have aw:=ye hc;obtain ⟨z,rz,t,hz,am,bf,p⟩:=ay c aw;have bh:i<U.length:=(yc.mp hc).1;have N:U.take (i+1)=U.take i++[c]:=by rw [yM,hc];rfl
   have bb:=A.sm _ _ h.prt;obtain ⟨kr,r1,r2,r3⟩:=A.row
   have rowOf:∀ {u:Str} {r:List Str},S.rows u=some r->∃ t,jG kr (.inr u:Key)=some (.ref t)/\J t=some (.lst (r.map V.str)):=fun {u r} e=>by
    have:=r3 u;rw [D.old u r e] at this;obtain ⟨t,k1,k2,_⟩:=this;exact ⟨t,k1,k2⟩
   obtain ⟨tv,kv,ev⟩:=rowOf hv;obtain ⟨tw,kw,ew⟩:=rowOf hw;ext;refine .inl (A.obj.rd T 1 rfl ?_);ext;refine qdI bb (by rw [jL,hz];rfl) ?_;ext;refine .inl (A.obj.rd T 2 rfl ?_);ext;refine qdI r1 kv ?_;ext;obtain ⟨dx,fs,bd,_,_,_,be⟩:=id A.obj;refine ⟨a.x,dx,fs,rfl,bd,be _ (by decide +kernel),?_⟩;ext;refine .inl (A.obj.rd T 2 rfl ?_);ext;refine qdI r1 kw ?_;ext;refine qgH ?_;ext;refine ⟨.inl ⟨rfl,_,.of ev⟩,?_⟩;ext;refine ⟨tv,rv,z,rfl,rfl,.of ev,by rw [p];simp,_,rfl,?_⟩;rw [p] at al;have ap:rv.idxOf z=rz.length:=by rw [p];exact qcT al
   rw [ap];ext;refine .inl ⟨tv,_,rfl,.of ev,fun c1 as=>?_⟩;have ag:qcL (rv.map V.str) (some ((rz.length:Nat):Int)) none=(z::t).map V.str:=by rw [qcx,p,yE,List.drop_left' (by simp)]
   rw [ag];have t1:=qF (Sr J) (o:=.lst ((z::t).map V.str)) as;have ac:upd J c1 (.lst ((z::t).map V.str)) c1=some (.lst ((z::t).map V.str)):=qb;generalize upd J c1 (.lst ((z::t).map V.str))=J1 at t1 ac;ext;refine ⟨1,rfl,?_⟩;refine ⟨_,rfl,rfl,c1,_,rfl,.of ac,fun c2 au=>?_⟩;have t2:=qF t1 (o:=.lst ((z::t).map V.str).reverse) au;have ad:upd J1 c2 (.lst ((z::t).map V.str).reverse) c2=some (.lst ((z::t).reverse.map V.str)):=by rw [qb,List.map_reverse]
   generalize upd J1 c2 (.lst ((z::t).map V.str).reverse)=J2 at t2 ad;have bi:(z::t).length<=14:=by rw [p,yt] at bc;omega
   refine qeH (t2 _ _ ew) ad (by rw [ya,ya,YD];omega) fun c3 ah=>?_;have ar:=A.same t2;have n3:=ar.newA ah;have t3:=qF t2 (o:=.lst (g.map V.str++(z::t).reverse.map V.str)) ah;have ae:upd J2 c3 (.lst (g.map V.str++(z::t).reverse.map V.str)) c3=some (.lst ((g++(z::t).reverse).map V.str)):=by rw [qb,yE]
   generalize upd J2 c3 (.lst (g.map V.str++(z::t).reverse.map V.str))=J3 at t3 ae
   have ai:c∉U.take i:=fun y=>by
    obtain ⟨j,hj⟩:=yf y;have az:=(yc.mp hj).1;rw [yP] at az;rw [List.getElem?_take,yF (by omega)] at hj;have:=qy ax hj hc;omega
   have an:S'.rows z=none:=by
    cases e:S'.rows z with
    | none=>rfl
    | some r =>
     exfalso;rcases D.new z r e with y | ⟨O,C,y,_⟩
     ·rw [am] at y;cases y
     ·have Z:=(qei ak).mp y;rw [(qei ak).mp hz] at Z;rw [<- ym Z] at C;exact ai C
   ext;refine ⟨H0,a.add l,ss,ns,qs,S',ss,dn,wt++b,lo,z,c3,g++(z::t).reverse,rfl,A.same t3,aq,ae,n3,bf,an,fun J4 h4 Y aj=>?_⟩;have ao:l∉a.six:=h.new s;have aa:J4 l=some (.lst (G.map V.str)):=Y _ _ ao (t3 _ _ eJ);ext;refine ⟨.inl ⟨rfl,_,.of aa⟩,?_⟩;ext;refine ⟨by show 2<=sizeLine;decide,fun c5 av=>?_⟩;have t5:=qF (Sr J4) (o:=.lst [.str c,.str z]) av;have af:upd J4 c5 (.lst [.str c,.str z]) c5=some (.lst [.str c,.str z]):=qb;generalize upd J4 c5 (.lst [.str c,.str z])=J5 at t5 af;have h5:=h4.same t5;ext;refine ⟨l,c5,_,_,rfl,rfl,t5 _ _ aa,af,by rw [ya,YL];show _+2<=_;omega,?_⟩;have h6:=h5.updE (c:=l) (o:=.lst (G.map V.str++[.str c,.str z])) yN;rw [B];refine ⟨S'.setRow z (g++(z::t).reverse),b++[z],G++[c,z],_,_,_,rfl,by rw [<- Ym wt];exact h6,?_,by rw [qb,yE];rfl,fun u=>?_,by rw [yt,m];show _+2=_;omega,by rw [yt,L];rfl,⟨D.par,D.bas,fun u r e=>?_,fun u r e=>?_,fun O C q' e=>?_⟩,fun o e=>?_⟩
   ·exact fun d o n e=>by
     have ne:d≠l:=fun y=>by rw [y,s] at e;cases e
     rw [qf ne];exact t5 _ _ (Y _ _ n (t3 _ _ (X _ _ n e)))
   ·rw [N,yD,M];simp only [yD,yv,yG,Yl];constructor
    ·rintro (⟨O,h1,h2⟩ | rfl | rfl)
     ·exact ⟨O,.inl h1,h2⟩
     ·exact ⟨u,.inr rfl,.inl rfl⟩
     ·exact ⟨c,.inr rfl,.inr hz⟩
    ·rintro ⟨O,h1 | rfl,h2⟩
     ·exact .inl ⟨O,h1,h2⟩
     ·rcases h2 with h2 | h2
      ·exact .inr (.inl h2)
      ·rw [hz] at h2;exact .inr (.inr (ym h2).symm)
   ·show (if u=z then _ else S'.rows u)=_;rw [yy (fun y=>by rw [y,am] at e;cases e)];exact D.old u r e
   ·have e':(if u=z then some (g++(z::t).reverse) else S'.rows u)=some r:=e;by_cases y:u=z
    ·subst y;rw [yF rfl] at e';exact .inr ⟨c,by rw [N];simp,hz,rv,g,rz,t,hv,hw,p,(ym e').symm⟩
    ·rw [yy y] at e';rcases D.new u r e' with x | ⟨O,h1,h2⟩
     ·exact .inl x
     ·exact .inr ⟨O,by rw [N];exact yO _ h1,h2⟩
   ·show ∃ r,(if q'=z then some (g++(z::t).reverse) else S'.rows q')=some r;by_cases y:q'=z
    ·rw [yF y];exact ⟨_,rfl⟩
    ·rw [yy y];rw [N] at C;rcases yD.mp C with x | x
     ·exact D.all O x q' e
     ·rw [yA.mp x,hz] at e;exact absurd (ym e).symm y
   ·have ne:a.dg≠l:=fun y=>ao (by rw [<- y];simp [Fo.six]);rw [qf ne];exact t5 _ _ (aj o (t3 _ _ (W o e)))
  ·rw [B] at R;obtain ⟨S',b,G,y5,y6,y7,rfl,A,X,eJ,M,m,L,D,W⟩:=R;rw [ya] at m L;rw [ya,yS] at M D;ext;exact q l G b J S' A X s eJ M m L D W
theorem KM:FnScope ["self","ring","meeting","within","place"] ["self","ring","meeting"] (qg jC):=fS
noncomputable def FS.setBas (S:FS) (l:List Str) (m:Str):FS:=⟨S.rows,S.par,fun u=>if u∈l then m else S.bas u⟩
noncomputable def wnL (S:FS) (ss a:List Str) (m:Str):List Str:=ss.filter fun u=>decide (S.bas u∈a++[m])
inductive spFd (cc:Nat->Addr) (cw:Addr) (vs:List V) (H:Hp) (Q:VK) (E:XK):Prop|mk (H0:Hp) (a:Fo) (ss:List Str) (ns:List Nat) (qs:List (Str×Str)) (S:FS) (dn wt:List Str) (lo:V) (lr:Addr) (rg:List Str) (m:Str) (xs:List V) (_:vs=[.ref a.x,.ref lr,.str m]) (_:FoA (cc 9) cw H0 H a ss ns qs S ss dn wt lo) (_:ss.length<=14) (_:H lr=some (.lst (rg.map V.str))) (_:lr∉a.six) (_:rg.length<=100) (_:H a.dg=some (.lst xs)) (_:xs.length<(dn++wt).length) (_:∀ H',FoA (cc 9) cw H0 H' a ss ns qs (S.setBas (wnL S ss rg m) m) ss dn wt lo->Bx a.six H H'->Q .non H')
theorem put_len {k:Key} {v u:V} (h:jG kvs k=some u):(zc kvs k v).length=kvs.length:=by
 unfold zc;rw [zW,h];exact ya _
theorem qek {n:Addr} {Q:VK} (a:H n=some (.lst (ss.map V.str))) (q:Q (.bl (decide (z∈ss))) H):qex K false (.str z) (.ref n) H Q:=
 .inl ⟨n,_,rfl,.inl (.of a),rfl,Yz.mpr fun x b=>by (obtain ⟨s,_,rfl⟩:=Yb.mp b;rfl),by rw [yy (by decide),qef];exact q⟩
theorem FoA.setB {a:Fo} {ks:List (Key×V)} {m:Str} (h:FoA (cc 9) cw H0 H a ss ns qs (S.setBas l m) ss dn wt lo) (t:H a.ds=some (.dK ks)) (hz:z∈ss):FoA (cc 9) cw H0 (upd H a.ds (.dK (zc ks (Sum.inr z) (.str m)))) a ss ns qs (S.setBas (l++[z]) m) ss dn wt lo/\ks.length<=ss.length:=by
 obtain ⟨A,K,L,M⟩:=h.row;obtain ⟨w,G,I,J⟩:=h.par;obtain ⟨k,g,i,j⟩:=h.bas;obtain ⟨xs,r,s⟩:=h.rng;rw [t] at g;cases g;obtain ⟨⟨N,O,E,P,R⟩,⟨T,F,U,W⟩,⟨b,B,C⟩,⟨d,f⟩,D⟩:=(by simpa [Fo.six] using h.sep:(¬a.x=a.dr/\¬a.x=a.da/\¬a.x=a.ds/\¬a.x=a.dg/\¬a.x=a.dw)/\(¬a.dr=a.da/\¬a.dr=a.ds/\¬a.dr=a.dg/\¬a.dr=a.dw)/\(¬a.da=a.ds/\¬a.da=a.dg/\¬a.da=a.dw)/\(¬a.ds=a.dg/\¬a.ds=a.dw)/\¬a.dg=a.dw);have p:Bx a.six H (upd H a.ds (.dK (zc ks (Sum.inr z) (.str m)))):=fun c o n e=>by rw [qf (fun y=>n (by rw [y];simp [Fo.six]))];exact e
 refine ⟨⟨qaj h.sm (h.fr _ (by simp [Fo.six])),h.web,h.prt,h.fr,h.nd,fun c hc=>⟨(h.exf c hc).1,(h.exf c hc).2.1,(h.exf c hc).2.2.elim fun o e=>⟨o,p _ _ (h.exf c hc).2.1 e⟩⟩,h.obj.eq (qf E),⟨A,by rw [qf F];exact K,L,fun y=>(M y).mono p Fo.sub⟩,⟨w,by rw [qf b];exact G,I,J⟩,⟨_,qb,by rw [put_len (j z hz)];exact i,fun u v=>?_⟩,⟨xs,by rw [qf (Yh d)];exact r,s⟩,by rw [qf (Yh f)];exact h.wai,h.evn,h.evi,h.evs⟩,i⟩;rw [qaS,j u v];show (if _ then _ else _)=some (V.str (if u∈l++[z] then m else S.bas u));have q:(S.setBas l m).bas u=if u∈l then m else S.bas u:=rfl;rw [q];by_cases e:u=z
 ·subst e;rw [yF rfl,yF (by simp)]
 ·rw [yy (fun x=>e (xk x))];by_cases y:u∈l
  ·rw [yF y,yF (yO _ y)]
  ·rw [yy y,yy (fun x=>(yD.mp x).elim y fun x=>e (yA.mp x))]
theorem FoA.updG {a:Fo} {bs:List Str} {xs:List V} (h:FoA (cc 9) cw H0 H a ss ns qs S bs dn wt lo) (m:xs.length<=(dn++wt).length):FoA (cc 9) cw H0 (upd H a.dg (.lst xs)) a ss ns qs S bs dn wt lo:=by
 obtain ⟨p,A,B,C⟩:=h.row;obtain ⟨n,v,w,z⟩:=h.par;obtain ⟨k,i,j,l⟩:=h.bas;obtain ⟨⟨D,E,F,t,G⟩,⟨I,J,u,K⟩,⟨q,b,r⟩,⟨d,s⟩,f⟩:=(by simpa [Fo.six] using h.sep:(¬a.x=a.dr/\¬a.x=a.da/\¬a.x=a.ds/\¬a.x=a.dg/\¬a.x=a.dw)/\(¬a.dr=a.da/\¬a.dr=a.ds/\¬a.dr=a.dg/\¬a.dr=a.dw)/\(¬a.da=a.ds/\¬a.da=a.dg/\¬a.da=a.dw)/\(¬a.ds=a.dg/\¬a.ds=a.dw)/\¬a.dg=a.dw);have g:Bx a.six H (upd H a.dg (.lst xs)):=(Bx.of (Sr H)).upd (by simp [Fo.six]);exact ⟨qaj h.sm (h.fr _ (by simp [Fo.six])),h.web,h.prt,h.fr,h.nd,fun c hc=>⟨(h.exf c hc).1,(h.exf c hc).2.1,(h.exf c hc).2.2.elim fun o e=>⟨o,g _ _ (h.exf c hc).2.1 e⟩⟩,h.obj.eq (qf t),⟨p,by rw [qf u];exact A,B,fun y=>(C y).mono g Fo.sub⟩,⟨n,by rw [qf b];exact v,w,z⟩,⟨k,by rw [qf d];exact i,j,l⟩,⟨xs,qb,m⟩,by rw [qf (Yh f)];exact h.wai,h.evn,h.evi,h.evs⟩
theorem ok_fdF (F:Fun K "fold" "Forest.fold" jC f fd) (T:Txt K mg cc cw) (Kq:MethOk P w K mg base CX0 1 cw "places" ["self"] (spPls cw)):FnOk P w K mg base CX0 2 f fd ["self","ring","meeting"] (spFd cc cw):=by
 refine F.ok KM fun _ _ _ _ H vs Q E hr h=>?_
 ·obtain ⟨H0,a,ss,ns,qs,S,dn,wt,lo,lr,d,m,xs,rfl,h,an,af,aq,ar,ad,as,q⟩:=h;have B:=jV hr;refine ⟨_,(qc (qcP (sc:=qg jC) (XN:=["self","ring","meeting","within","place"]) ["place","ring","self","meeting"] 1 [1,0,2] rfl rfl rfl (by decide +kernel) rfl (by decide +kernel) (i:=3) KM.nd rfl rfl
  (qU (K:=K) rfl (jj Kq (hmR hr) (qA (K:=K) rfl (pv 0) rfl))) (fun _ _ _ _=>(qq (i:=0) (show (["place","ring","self","meeting"]:List Str).Nodup by decide +kernel) rfl (yK rfl))) jc
  (fun _ _ _ _=>(jr (qp (zw (K:=K) rfl B) (qr (qt (K:=K) rfl B) (qA (K:=K) rfl (pv 2) rfl) (pv 0) (fun _ _=>rfl)) (qx (jU (K:=K) rfl) (pv 1) (qJ (qa (pv 3) qd))) (by with_unfolding_all rfl))))
  (fun _ _ _ _=>(pv 0)))
 (qc (jf yU rfl (qU (K:=K) rfl (pv 3)) (qq (i:=4) KM.nd rfl (yK rfl))
 (qe (jv (pv 2) (jy (qA (K:=K) rfl (pv 0) rfl) (pv 4) (jB B)))))
 (qe (qI (qbI (K:=K) rfl yR Ye Yg qM (qA (K:=K) rfl (pv 0) rfl) (qa (pv 3) qd)))))),?_⟩
  have al:=h.few;have A:=h.web.same h.sm;obtain ⟨wx,dd,ol,nn,hb,_⟩:=id A;ext;refine .inl (h.obj.rd T 0 rfl ?_);refine ⟨a.b,wx,_,rfl,hb,j8 (by decide +kernel),?_⟩;ext;refine ⟨a.b,ss,ns,rfl,A,fun pl ag=>?_⟩;have s1:=qF (Sr H) (o:=.lst (ss.map V.str)) ag;have Y:upd H pl (.lst (ss.map V.str)) pl=some (.lst (ss.map V.str)):=qb;generalize upd H pl (.lst (ss.map V.str))=H1 at s1 Y;refine .inl ⟨⟨_,.of Y⟩,qZ (xs:=ss.map V.str) (fun i ys J=>L2.Same H1 J/\ys=((ss.take i).filter fun u=>decide (S.bas u∈d++[m])).map V.str) ⟨L2.Same.refl H1,rfl⟩ (fun i ys J _ g=>.of (g.1 _ _ Y)) (fun i y ys J G g=>?_) fun ys J g=>?_⟩
  ·obtain ⟨I,rfl⟩:=g;rw [yd] at G;obtain ⟨z,hz,rfl⟩:=yn.mp G;have j:=s1.trans I;have l:=h.same j;obtain ⟨ks,N,b2,b3⟩:=l.bas;have ao:=(yc.mp hz).1
   have r:(ss.take (i+1)).filter (fun u=>decide (S.bas u∈d++[m]))=(ss.take i).filter (fun u=>decide (S.bas u∈d++[m]))++(if S.bas z∈d++[m] then [z] else []):=by
    rw [yM,hz,Yp];show _++[z].filter _=_;rw [yT];simp only [XW,YK]
   ext;refine .inl (l.obj.rd T 4 rfl ?_);ext;refine qdI N (b3 z (ye hz)) ?_;ext;refine ⟨by show 1<=sizeLine;decide,fun W aa=>?_⟩;have t1:=qF (Sr J) (o:=.lst [.str m]) aa;have s:upd J W (.lst [.str m]) W=some (.lst [.str m]):=qb;generalize upd J W (.lst [.str m])=J1 at t1 s;refine qeH ((j.trans t1) _ _ af) s (by rw [ya];show _+1<=_;omega) fun X ac=>?_;have t2:=qF t1 (o:=.lst (d.map V.str++[.str m])) ac;have t:upd J1 X (.lst (d.map V.str++[.str m])) X=some (.lst ((d++[m]).map V.str)):=by rw [qb,yE];rfl
   generalize upd J1 X (.lst (d.map V.str++[.str m]))=J2 at t2 t;refine qek t ⟨_,rfl,?_⟩;rw [r];by_cases p:S.bas z∈d++[m]
   ·rw [yB p,yF p];refine qag ?_;ext;have ae:=yW (fun u=>decide (S.bas u∈d++[m])) (ss.take i);rw [yP] at ae;refine ⟨by rw [ya];exact qi (by omega),I.trans t2,by rw [yE];rfl⟩
   ·rw [yl p,yy p,Yd];refine yq ?_;exact ⟨I.trans t2,rfl⟩
  ·obtain ⟨I,rfl⟩:=g;rw [show (ss.map V.str).length=ss.length from ya _,yS];have j:=s1.trans I;have ai:(ss.filter fun u=>decide (S.bas u∈d++[m])).length<=ss.length:=yW _ _;refine ⟨by rw [ya];exact Yc (qi (by omega)),fun M C=>?_⟩;have O:=qF j (o:=.lst ((wnL S ss d m).map V.str)) C;have Z:upd J M (.lst ((wnL S ss d m).map V.str)) M=some (.lst ((wnL S ss d m).map V.str)):=qb;have am:(wnL S ss d m).length<=ss.length:=ai;have aj:∀ u∈wnL S ss d m,u∈ss:=fun u B=>(yp.mp B).1;show qf5 _ _ _ _ (upd J M (.lst ((wnL S ss d m).map V.str)));generalize wnL S ss d m=L at *;have D:=(h.same j).new C;generalize upd J M (.lst (L.map V.str))=H2 at O Z;have h2:=h.same O;ext;refine .inl ⟨⟨_,.of Z⟩,qT (xs:=L.map V.str) (fun i R J=>Bx a.six H2 J/\(∀ o,H2 a.dg=some o->J a.dg=some o)/\FoA (cc 9) cw H0 J a ss ns qs (S.setBas (L.take i) m) ss dn wt lo/\∃ y4,R=[some (.ref a.x),some (.ref lr),some (.str m),some (.ref M),y4]) ⟨fun c o _ e=>e,fun _ e=>e,?_,_,rfl⟩ (fun i R J _ g=>.of (g.1 _ _ D Z)) (fun i y R J G g=>?_) fun R J g=>?_⟩
   ·have:S.setBas ([]:List Str) m=S:=by unfold FS.setBas;simp
    rw [List.take_zero,this];exact h2
   ·obtain ⟨U,hg,l,y4,rfl⟩:=g;rw [yd] at G;obtain ⟨z,hz,rfl⟩:=yn.mp G;obtain ⟨ks,N,b2,b3⟩:=l.bas;have ah:L.take (i+1)=L.take i++[z]:=by rw [yM,hz];rfl
    obtain ⟨h3,ap⟩:=l.setB N (aj z (ye hz));ext;refine .inl (l.obj.rd T 4 rfl ?_);ext;refine .inr ⟨a.ds,_,rfl,DPut.k (k:=Sum.inr z) N (by rw [YL];omega),?_⟩;have ak:a.dg≠a.ds:=fun e=>by have:=h.nd;rw [e] at this;simp at this
    exact ⟨fun c o n e=>by rw [qf (fun y=>n (by rw [y];simp [Fo.six]))];exact U c o n e,fun o e=>by rw [qf ak];exact hg o e,by rw [ah];exact h3,_,rfl⟩
   ·obtain ⟨U,hg,l,y4,rfl⟩:=g;rw [ya,yS] at l;have v:=hg _ (O _ _ ad);ext;refine .inl (l.obj.rd T 5 rfl ?_);refine ⟨.inl ⟨rfl,_,.of v⟩,?_⟩;ext;refine ⟨a.dg,_,_,rfl,rfl,v,qi (by omega),?_⟩;exact q _ (l.updG (by rw [yt];simp only [yC,YX];omega)) ((Bx.of O).trans U |>.upd (by simp [Fo.six]))
theorem Kl:FnScope ["self","one","other","ones","others","meeting","ring"] ["self","one","other"] (qg qG):=fS
structure Mono (S S':FS):Prop where
 ba:∀ u v,S.bas u=S.bas v->S'.bas u=S'.bas v
 pa:∀ u,S.par u≠none->S'.par u≠none
 ro:∀ u r,S.rows u=some r->S'.rows u=some r
theorem Mono.refl (S:FS):Mono S S:=⟨fun _ _ e=>e,fun _ e=>e,fun _ _ e=>e⟩
theorem Mono.trans {c:FS} (a:Mono S S') (b:Mono S' c):Mono S c:=⟨fun u v e=>b.ba u v (a.ba u v e),fun u e=>b.pa u (a.pa u e),fun u r e=>b.ro u r (a.ro u r e)⟩
structure Wb (A:Str->Str->Prop) (ss:List Str) (qs:List (Str×Str)):Prop where
 gr:Gr A (pt qs)
 inn:∀ a b,A a b->a∈ss
 qn:(qw qs).Nodup
 few:ss.length<=14
 nd:ss.Nodup
theorem Alt.inn (W:Wb A ss qs) (h:Alt A (pt qs) r v) (hv:v∈ss):r.length<=14/\∀ u∈r,u∈ss:=by
 have a:∀ u∈r,u∈ss:=fun u g=>by
  obtain ⟨j,d⟩:=yf g;obtain ⟨i,e⟩:=h.tl;by_cases hl:j+1<r.length
  ·obtain ⟨b,f⟩:∃ b,r[j+1]?=some b:=⟨_,yb hl⟩;exact W.inn _ _ (h.st j u b d f).1
  ·have c:=(yc.mp d).1;have:j=i.length:=by rw [e,yt] at c hl;simp at c hl;omega
   rw [e,this,yJ (yh _),k7] at d;rw [<- ym d];exact hv
 exact ⟨yi (zq h.nd a) W.few,a⟩
theorem qds (l':List Str):∀ {l:List Str},(∃ d∈l,d∈l')->∃ l1 m l2,l=l1++m::l2/\m∈l'/\(∀ d∈l1,d∉l')/\∃ t,l.filter (fun d=>decide (d∈l'))=m::t
 | [],⟨_,h,_⟩=>by cases h
 | x::r,h=>by
  by_cases b:x∈l'
  ·exact ⟨[],x,r,rfl,b,(fun _ h=>by cases h),_,by rw [yT,yF (yB b)]⟩
  ·obtain ⟨d,i,a⟩:=h;obtain ⟨l1,m,l2,c,e,f,t,g⟩:=qds l' (l:=r) ⟨d,(yv.mp i).resolve_left (fun z=>b (by rw [<- z];exact a)),a⟩;refine ⟨x::l1,m,l2,by rw [c];rfl,e,fun y hy=>?_,t,by rw [yT,yy (by simpa using b)];exact g⟩;rcases yv.mp hy with rfl | hy
   ·exact b
   ·exact f y hy
inductive spBt (cc:Nat->Addr) (cw:Addr) (vs:List V) (H:Hp) (Q:VK) (E:XK):Prop|mk (H0:Hp) (a:Fo) (ss:List Str) (ns:List Nat) (qs:List (Str×Str)) (S:FS) (dn wt:List Str) (v w:Str) (rv rw:List Str) (A:Str->Str->Prop) (_:vs=[.ref a.x,.str v,.str w]) (_:FoA (cc 9) cw H0 H a ss ns qs S ss dn wt .non) (_:Wb A ss qs) (_:FI A (pt qs) S) (_:S.rows v=some rv) (_:S.rows w=some rw) (_:A v w) (_:(∀ (H':Hp) (S':FS) (more:List Str),FoA (cc 9) cw H0 H' a ss ns qs S' ss dn (wt++more) .non->Bx a.six H H'->FI A (pt qs) S'->S'.bas v=S'.bas w->Mono S S'->Q .non H')) (_:∀ (H':Hp) (t:Addr) (r:List Str),FoA (cc 9) cw H0 H' a ss ns qs S ss dn wt (.ref t)->Bx a.six H H'->H' t=some (.lst (r.map V.str))->t∉a.all->Aug A (pt qs) r->r.length<=28->Q .non H')
theorem qe3 {d:Str} {Q:VK} (q:Q (.bl (!decide (c=d))) H):qfg K true (.str c) (.str d) H Q:=by
 refine .inl ⟨rfl,rfl,?_⟩;rw [yF rfl]
 have e:eqV (.str c) (.str d)=decide (c=d):=by
  by_cases h:c=d
  ·subst h;simp [eqV]
  ·simp [eqV,h]
 rw [e];exact q
theorem FoA.setL {a:Fo} {bs:List Str} {fs:List (Str×V)} {v:V} (h:FoA (cc 9) cw H0 H a ss ns qs S bs dn wt .non) (s:H a.x=some (.ins (cc 9) dx fs)) (hv:v≠.non):fs.length<1000/\FoA (cc 9) cw H0 (upd H a.x (.ins (cc 9) dx (qE "longer" v fs))) a ss ns qs S bs dn wt v:=by
 obtain ⟨m,n,g,K,G,I,J⟩:=h.obj;rw [s] at g;cases g;have hl:=G rfl;obtain ⟨w,D,E,F⟩:=h.row;obtain ⟨t,A,B,C⟩:=h.par;obtain ⟨k,i,j,l⟩:=h.bas;obtain ⟨xs,p,q⟩:=h.rng;have r:=h.sep;have nx:∀ {c:Addr},c∈[a.dr,a.da,a.ds,a.dg,a.dw]->c≠a.x:=fun hc e=>(yo.mp r).1 (by rw [<- e];exact hc);have d:Bx a.six H (upd H a.x (.ins (cc 9) dx (qE "longer" v fs))):=(Bx.of (Sr H)).upd (by simp [Fo.six]);refine ⟨by omega,qaj h.sm (h.fr _ (by simp [Fo.six])),h.web,h.prt,h.fr,h.nd,fun c hc=>⟨(h.exf c hc).1,(h.exf c hc).2.1,(h.exf c hc).2.2.elim fun o e=>⟨o,d _ _ (h.exf c hc).2.1 e⟩⟩,⟨dx,_,qb,yi (ju _ _ _) (by omega),fun e=>absurd e hv,fun f u b=>?_,fun f b=>?_⟩,⟨w,by rw [qf (nx (by simp))];exact D,E,fun y=>(F y).mono d Fo.sub⟩,⟨t,by rw [qf (nx (by simp))];exact A,B,C⟩,⟨k,by rw [qf (nx (by simp))];exact i,j,l⟩,⟨xs,by rw [qf (nx (by simp))];exact p,q⟩,by rw [qf (nx (by simp))];exact h.wai,h.evn,h.evi,h.evs⟩
 ·rw [qB];by_cases e:f="longer"
  ·rw [yF e];subst e;have:(Str.ofString "longer",u)∈a.tab v:=b;simp only [Fo.tab,yv,Xy,yG,Yl] at this;rcases this with ⟨z,_⟩ | ⟨z,_⟩ | ⟨z,_⟩ | ⟨z,_⟩ | ⟨z,_⟩ | ⟨z,_⟩ | ⟨z,_⟩ | ⟨_,z⟩<;>first | exact absurd z (by decide +kernel) | exact congrArg some z.symm
  ·rw [yy e];refine I f u ?_;have:(f,u)∈a.tab v:=b;simp only [Fo.tab,yv,Xy,yG,Yl] at this ⊢;rcases this with z | z | z | z | z | z | z | ⟨z,_⟩
   all_goals first | exact absurd z e | simp [z]
 ·rw [qB,yy (fun e=>b (by rw [e];decide +kernel))];exact J f b
theorem FoA.rowAt {a:Fo} {bs:List Str} (h:FoA (cc 9) cw H0 H a ss ns qs S bs dn wt lo) (e:S.rows u=some r) {Q:VK} (q:∀ t,H t=some (.lst (r.map V.str))->Q (.ref t) H):qf2 K (.ref a.dr) (.str u) H Q:=by
 obtain ⟨g,d,_,f⟩:=h.row;have:=f u;rw [e] at this;obtain ⟨t,b,c,_⟩:=this;exact qdI d b (q t c)
theorem ok_bt (F:Fun K "bring_together" "Forest.bring_together" qG f fd) (T:Txt K mg cc cw) (KC:MethOk P w K mg base CX0 1 (cc 9) "bases_down_from" ["self","place"] (spBd cc cw)) (KJ:MethOk P w K mg base CX0 2 (cc 9) "reach_round" ["self","one","other","bases"] (spRr cc cw)) (uS:MethOk P w K mg base CX0 2 (cc 9) "fold" ["self","ring","meeting"] (spFd cc cw)):FnOk P w K mg base CX0 3 f fd ["self","one","other"] (spBt cc cw):=by
 refine F.ok Kl fun _ _ _ _ H vs Q E hr h=>?_
 ·obtain ⟨H0,a,ss,ns,qs,S,dn,wt,v,w,rv,g,B,rfl,h,b,I,hv,hw,cf,q1,q2⟩:=h;have M:=jV hr;have Y:∀ {v:Str} {r:List Str},S.rows v=some r->v∈ss:=fun e=>h.evs _ ((h.evi _).mpr (by rw [e];exact fun z=>by cases z));obtain ⟨l,hl⟩:=I.chainOf hv;obtain ⟨l',D⟩:=I.chainOf hw;have ai:=hl.nd I hv rfl;have C:=D.nd I hw rfl;have Z:l.length<=14:=yi (zq ai fun c hc=>(hl.bs0 I hv hc).elim fun r z=>Y z.1) b.few;have L:l'.length<=14:=yi (zq C fun c hc=>(D.bs0 I hw hc).elim fun r z=>Y z.1) b.few;obtain ⟨au,du⟩:=(I.alt v rv hv).inn b (Y hv);obtain ⟨al,dv⟩:=(I.alt w g hw).inn b (Y hw);obtain ⟨lx,c,ax⟩:∃ lx c,l=lx++[c]:=by obtain ⟨t,e⟩:=hl.ne;exact ⟨_,_,(xn (by rw [e];exact kU _ _)).symm⟩
  obtain ⟨ly,d,ay⟩:∃ ly d,l'=ly++[d]:=by obtain ⟨t,e⟩:=D.ne;exact ⟨_,_,(xn (by rw [e];exact kU _ _)).symm⟩
  refine ⟨_,(qc (qk (i:=3) Kl.nd rfl (yK rfl) (qD KC (hmR hr) (pv 0) (qa (pv 1) qd)))
 (qc (qk (i:=4) Kl.nd rfl (XT rfl) (qD KC (hmR hr) (pv 0) (qa (pv 2) qd)))
 (qe (qN (qp (qbw (K:=K) rfl M) (qr (qt (K:=K) rfl M) (pv 3) (qbb qaN qh) (fun _ _=>rfl)) (qr (qt (K:=K) rfl M) (pv 4) (qbb qaN qh) (fun _ _=>rfl)) (qC _)) (qe (jJ (K:=K) rfl (pv 0) (qx (jU (K:=K) rfl) (qr (qt (K:=K) rfl M) (qA (K:=K) rfl (pv 0) rfl) (pv 1) (fun _ _=>rfl)) (qe1 (K:=K) rfl (qr (qt (K:=K) rfl M) (qA (K:=K) rfl (pv 0) rfl) (pv 2) (fun _ _=>rfl)) (jH (qbb qaN qh)))) rfl)) (qe (qN (qp (qbw (K:=K) rfl M) (qr (qt (K:=K) rfl M) (pv 3) qh (fun _ _=>rfl)) (qr (qt (K:=K) rfl M) (pv 4) qh (fun _ _=>rfl)) (qC _)) (qc (qk (i:=5) Kl.nd rfl (yK rfl) (qr (qt (K:=K) rfl M) (ji (sc:=qg qG) (XN:=["self","one","other","ones","others","meeting","ring"]) ["base","others"] 1 [4] rfl rfl rfl (by decide +kernel) rfl (by decide +kernel)
  (qU (K:=K) rfl (pv 3)) (fun _ _ _ _=>(qq (i:=0) (show (["base","others"]:List Str).Nodup by decide +kernel) rfl (yK rfl))) jc
  (fun _ _ _ _=>(jr (qp (zw (K:=K) rfl M) (pv 0) (pv 1) (by with_unfolding_all rfl))))
  (fun _ _ _ _=>(pv 0))) qh (fun _ _=>rfl)))
 (qc (qk (i:=6) Kl.nd rfl (yK rfl) (qD KJ (hmR hr) (pv 0) (qa (pv 1) (qa (pv 2) (qa (jA (qd3 (K:=K) rfl) (pv 3) j4 (jH (qbI (K:=K) rfl yR xR XI (qcR (K:=K) rfl) (pv 3) (qa (pv 5) qd)))) qd)))))
 (qc (qI (qbI (K:=K) rfl yR PySem.F.slot_list_extend PySem.F.type_list_extend qbK (pv 6) (qa (qD KJ (hmR hr) (pv 0) (qa (pv 2) (qa (pv 1) (qa (jA (qd3 (K:=K) rfl) (pv 4) j4 (jH (qbI (K:=K) rfl yR xR XI (qcR (K:=K) rfl) (pv 4) (qa (pv 5) qd)))) qd)))) qd)))
 (qe (qI (qD uS (hmR hr) (pv 0) (qa (pv 6) (qa (pv 5) qd)))))))) qv)))))),?_⟩
  ext;obtain ⟨dx,fs,ak,_,_,_,ba⟩:=id h.obj;refine ⟨a.x,dx,fs,rfl,ak,ba _ (by decide +kernel),?_⟩;ext;refine ⟨H0,a,ss,ns,qs,S,dn,wt,.non,v,rv,l,B,rfl,h,b.few,I,hv,hl,Z,fun o1 H1 s1 dk cu=>?_⟩;ext;refine ⟨a.x,dx,fs,rfl,s1 _ _ ak,ba _ (by decide +kernel),?_⟩;ext;refine ⟨H0,a,ss,ns,qs,S,dn,wt,.non,w,g,l',B,rfl,h.same s1,b.few,I,hw,D,L,fun o2 H2 s2 dl am=>?_⟩;have aq:=s1.trans s2;have h2:=h.same aq;have R:=s2 _ _ cu;have ds:=h.newA dk;have dt:=(h.same s1).newA dl;ext;refine ⟨1,rfl,?_⟩;refine .inl (za R (v:=.str c) (by rw [ax];exact atI_last) ?_);ext;refine ⟨1,rfl,?_⟩;refine .inl (za am (v:=.str d) (by rw [ay];exact atI_last) ?_);refine qe3 ⟨_,rfl,?_⟩;by_cases an:c=d
  ·rw [yB an];refine yq ?_;obtain ⟨t0,X⟩:=hl.ne;obtain ⟨ef,A⟩:=D.ne;ext;refine .inl (za R (v:=.str (S.bas v)) (qo (j:=0) (by rw [X];rfl)) ?_);ext;refine .inl (za am (v:=.str (S.bas w)) (qo (j:=0) (by rw [A];rfl)) ?_);refine qe3 ⟨_,rfl,?_⟩;by_cases ag:S.bas v=S.bas w
   ·rw [yB ag];refine yq ?_;exact q1 H2 S [] (by rw [Yd];exact h2) (Bx.of aq) I ag (Mono.refl S)
   ·rw [yl ag];refine qag ?_;obtain ⟨l1,m,l2,U,aj,ao,tf,bq⟩:=qds l' (l:=l) ⟨c,by rw [ax];simp,by rw [ay,an];simp⟩;obtain ⟨m1,m2,O⟩:=Yq aj;obtain ⟨ct,de⟩:=hl.meet I hv hw D U O ao;rw [ct] at O;have dy:m∉m1:=fun z=>by rw [O] at C;exact (Yi.mp C).2.2 m z m (by simp) rfl
    have dw:m∉l1:=fun z=>ao m z aj;ext;refine .inl ⟨⟨_,.of R⟩,qZ (xs:=l.map V.str) (fun i ys J=>J=H2/\ys=((l.take i).filter fun d=>decide (d∈l')).map V.str) ⟨rfl,rfl⟩ (fun i ys J _ hp=>by rw [hp.1];exact .of R) (fun i y ys J hy hp=>?_) fun ys J hp=>?_⟩
    ·obtain ⟨rfl,rfl⟩:=hp;rw [yd] at hy;obtain ⟨z,hz,rfl⟩:=yn.mp hy
     have az:(l.take (i+1)).filter (fun d=>decide (d∈l'))=(l.take i).filter (fun d=>decide (d∈l'))++(if z∈l' then [z] else []):=by
      rw [yM,hz,Yp];show _++[z].filter _=_;rw [yT];simp only [XW,YK]
     have ec:=(yc.mp hz).1;have dh:=yW (fun d=>decide (d∈l')) (l.take i);rw [yP] at dh;ext;refine qek am ⟨_,rfl,?_⟩;rw [az];by_cases G:z∈l'
     ·rw [yB G,yF G];refine qag ?_;ext;exact ⟨by rw [ya];exact qi (by omega),rfl,by rw [yE];rfl⟩
     ·rw [yl G,yy G,Yd];refine yq ?_;exact ⟨rfl,rfl⟩
    ·obtain ⟨rfl,rfl⟩:=hp;rw [show (l.map V.str).length=l.length from ya _,yS,bq];have dp:=yW (fun d=>decide (d∈l')) l;rw [bq] at dp;refine ⟨by rw [ya];exact Yc (qi (by omega)),fun cl bt=>?_⟩;have s3:=qF aq (o:=.lst ((m::tf).map V.str)) bt;have bc:=qF (Sr J) (o:=.lst ((m::tf).map V.str)) bt;have bh:upd J cl (.lst ((m::tf).map V.str)) cl=some (.lst ((m::tf).map V.str)):=qb;generalize upd J cl (.lst ((m::tf).map V.str))=H3 at s3 bc bh;ext;refine .inl (za bh (v:=.str m) (qo (j:=0) rfl) ?_);have h3:=h.same s3;have ae:=bc _ _ R;have bm:=bc _ _ am;ext;refine ⟨a.x,dx,fs,rfl,s3 _ _ ak,ba _ (by decide +kernel),?_⟩;ext;refine ⟨.inl ⟨rfl,_,.of ae⟩,?_⟩;ext;refine ⟨o1,l,m,rfl,rfl,.of ae,by rw [U];simp,_,rfl,?_⟩;rw [show l.idxOf m=l1.length by rw [U] at ai ⊢;exact qcT ai];ext;refine .inl ⟨o1,_,rfl,.of ae,fun c1 aa=>?_⟩;have bi:qcL (l.map V.str) none (some ((l1.length:Nat):Int))=l1.map V.str:=by rw [qbm,U,yE,List.take_left' (by simp)]
     rw [bi];have s4:=qF s3 (o:=.lst (l1.map V.str)) aa;have co:=qF (Sr H3) (o:=.lst (l1.map V.str)) aa;have ac:upd H3 c1 (.lst (l1.map V.str)) c1=some (.lst (l1.map V.str)):=qb;have n1:=h3.new aa;generalize upd H3 c1 (.lst (l1.map V.str))=H4 at s4 co ac;have h4:=h.same s4
     have av:∀ {x y:Str} {rx k W:List Str},S.rows x=some rx->(∀ u∈rx,u∈ss)->Ch (pt qs) S (S.bas x) k->k=W++m::l2->∀ c∈W,∃ q rz t,pt qs c=some q/\S.rows q=none/\q∈ss/\rx=rz++q::t:=fun {x y rx k W} hx hs hk ek c hc=>by
      obtain ⟨a',b',ea⟩:=Yq hc;have bj:k=a'++c::(b'++m::l2):=by rw [ek,ea];simp
      obtain ⟨_,_,_,_,g3,_⟩:=hk.up I hx rfl bj;rcases g3.cases' with ⟨_,z⟩ | ⟨q,_,hq,_⟩
      ·simp at z
      ·obtain ⟨rz,t,W,_,k3,_⟩:=hk.suf I hx bj hq;exact ⟨q,rz,_,hq,k3,hs q (by rw [W];simp),W⟩
     ext;refine ⟨H0,a,ss,ns,qs,S,dn,wt,.non,v,w,c1,l1,rv,g,rfl,h4,b.few,ac,n1,hv,hw,au,al,(I.alt v rv hv).nd,?_,?_,b.qn,av (y:=v) hv du hl U,fun N p ap H5 S1 h5 be ce bn bz cb bw R1 di=>?_⟩
     ·rw [U] at ai;exact (Yi.mp ai).1
     ·rw [U,yt] at Z;omega
     have eb:o1∉a.six:=fun z=>ds (Fo.sub _ z);have cn:o2∉a.six:=fun z=>dt (Fo.sub _ z);have af:=be _ _ cn (co _ _ bm);ext;refine ⟨.inl ⟨rfl,_,.of bn⟩,?_⟩;ext;obtain ⟨cr,cz,ch,_,_,_,cj⟩:=id h5.obj;refine ⟨a.x,cr,cz,rfl,ch,cj _ (by decide +kernel),?_⟩;ext;refine ⟨.inl ⟨rfl,_,.of af⟩,?_⟩;ext;refine ⟨o2,l',m,rfl,rfl,.of af,aj,_,rfl,?_⟩;rw [show l'.idxOf m=m1.length by rw [O] at C ⊢;exact qcT C];ext;refine .inl ⟨o2,_,rfl,.of af,fun c2 ah=>?_⟩;have aw:qcL (l'.map V.str) none (some ((m1.length:Nat):Int))=m1.map V.str:=by rw [qbm,O,yE,List.take_left' (by simp)]
     rw [aw];have s6:=qF (Sr H5) (o:=.lst (m1.map V.str)) ah;have ad:upd H5 c2 (.lst (m1.map V.str)) c2=some (.lst (m1.map V.str)):=qb;have n2:=h5.new ah;generalize upd H5 c2 (.lst (m1.map V.str))=H6 at s6 ad;have h6:=h5.same s6
     have cm:∀ c∈m1,∀ q,pt qs c=some q->S.rows q=none->S1.rows q=none:=fun c hc q hq hn=>by
      cases e:S1.rows q with
      | none=>rfl
      | some r =>
       exfalso;rcases R1.new q r e with z | ⟨c',hc',z,_⟩
       ·rw [hn] at z;cases z
       ·have e1:=b.gr.fs z;rw [b.gr.fs hq] at e1;rw [<- ym e1] at hc';exact ao c hc' (by rw [O];exact yO _ hc)
     ext;refine ⟨H0,a.add N,ss,ns,qs,S1,dn,wt++ap,.non,w,v,c2,m1,g,rv,rfl,h6,b.few,ad,n2,R1.old _ _ hw,R1.old _ _ hv,al,au,(I.alt w g hw).nd,?_,?_,b.qn,fun c hc=>?_,fun t2 s bb H7 S2 h7 bf ed cv ca cd bx R2 dj=>?_⟩
     ·rw [O] at C;exact (Yi.mp C).1
     ·rw [O,yt] at L;omega
     ·obtain ⟨q,rz,t,W,k2,k3,k4⟩:=av (y:=v) hw dv D O c hc;exact ⟨q,rz,t,W,cm c hc q W k2,k3,k4⟩
     have bd:N∉a.six:=h4.new ce;have bo:H7 N=some (.lst (p.map V.str)):=bf _ _ bd (s6 _ _ bn);ext;refine ⟨N,t2,_,_,rfl,rfl,bo,cv,by rw [ya,ya,YL];rw [U,yt] at Z;rw [O,yt] at L;omega,?_⟩;have h8:=h7.updE (c:=N) (o:=.lst (p.map V.str++s.map V.str)) (by simp [Fo.add]);obtain ⟨xs,df,ee⟩:=h.rng;have bu:=dj _ (s6 _ _ (di _ (s4 _ _ df)));have dr:a.dg≠N:=fun z=>bd (by rw [<- z];simp [Fo.six]);have bp:upd H7 N (.lst (p.map V.str++s.map V.str)) N=some (.lst ((p++s).map V.str)):=by rw [qb,yE]
     have ar:upd H7 N (.lst (p.map V.str++s.map V.str)) a.dg=some (.lst xs):=by rw [qf dr];exact bu
     have bg:Bx a.six H (upd H7 N (.lst (p.map V.str++s.map V.str))):=fun e o n k=>by
      have ne:e≠N:=fun z=>by rw [z,s4.free ce] at k;cases k
      rw [qf ne];exact bf _ _ n (s6 _ _ (be _ _ n (s4 _ _ k)))
     generalize upd H7 N (.lst (p.map V.str++s.map V.str))=H8 at h8 bp ar bg
     have dz:0<ap.length+bb.length:=by
      rw [bw,bx];rcases l1 with _ | ⟨x,r⟩
      ·rcases m1 with _ | ⟨x,r⟩
       ·rw [U] at X;rw [O] at A;exact absurd ((xu X).1.symm.trans (xu A).1) ag
       ·simp
      ·simp;omega
     ext;obtain ⟨cs,da,ci,_,_,_,ck⟩:=id h8.obj;refine ⟨a.x,cs,da,rfl,ci,ck _ (by decide +kernel),?_⟩;ext;refine ⟨H0,(a.add N).add t2,ss,ns,qs,S2,dn,wt++ap++bb,.non,N,p++s,m,xs,rfl,h8,b.few,bp,bd,?_,ar,?_,fun H9 h9 cq=>?_⟩
     ·rw [yt,cb,cd];rw [U,yt] at Z;rw [O,yt] at L;omega
     ·rw [<- Ym,<- Ym,yt,yt (as:=dn++wt)];omega
     have dm:∀ u,u∈p++s++[m]↔InR (pt qs) m (l1++m1) u:=fun u=>by
      rw [yD,yD,bz,ca,yA];unfold InR;constructor
      ·rintro ((⟨c,hc,z⟩ | ⟨c,hc,z⟩) | z)
       ·exact .inr ⟨c,yO _ hc,z⟩
       ·exact .inr ⟨c,yL _ hc,z⟩
       ·exact .inl z
      ·rintro (z | ⟨c,hc,z⟩)
       ·exact .inr z
       ·rcases yD.mp hc with y | y
        ·exact .inl (.inl ⟨c,y,z⟩)
        ·exact .inl (.inr ⟨c,y,z⟩)
     have br:S2.bas=S.bas:=by rw [R2.bas,R1.bas]
     have bv:∀ u,InR (pt qs) m (l1++m1) (S.bas u)->u∈ss:=fun u M=>by
      cases e:S.rows u with
      | some r=>exact Y e
      | none =>
       rw [I.own e] at M;rcases M with z | ⟨c,hc,z⟩
       ·obtain ⟨r,k,_⟩:=hl.bs0 I hv (c:=m) (by rw [U];simp);rw [z];exact Y k
       ·have dd:∃ r,S.rows c=some r:=by
         rcases yD.mp hc with y | y
         ·exact (hl.bs0 I hv (by rw [U];exact yO _ y)).elim fun r k=>⟨r,k.1⟩
         ·exact (D.bs0 I hw (by rw [O];exact yO _ y)).elim fun r k=>⟨r,k.1⟩
        obtain ⟨r,k⟩:=dd;rcases z with z | z
        ·rw [z];exact Y k
        ·exact b.inn _ _ (b.gr.as (b.gr.fa z))
     have hM:Mg (pt qs) S (S2.setBas (wnL S2 ss (p++s) m) m) v w m l1 m1:=by
      have cg:∀ u,u∈wnL S2 ss (p++s) m↔u∈ss/\InR (pt qs) m (l1++m1) (S.bas u):=fun u=>by
       unfold wnL;rw [yp,yQ,dm,br]
      have nr:∀ {u:Str} {r:List Str},NewRow S1 w v u r->NewRow S w v u r:=fun ⟨a1,a2,a3,a4,W,k2,k3⟩=>by
       rw [R1.old _ _ hw] at W;rw [R1.old _ _ hv] at k2;cases W;cases k2;exact ⟨_,_,a3,a4,hw,hv,k3⟩
      refine ⟨by show S2.par=S.par;rw [R2.par,R1.par],fun u r e=>R2.old _ _ (R1.old _ _ e),fun u r e=>?_,fun c hc q hq=>?_,fun u M=>?_,fun u M=>?_⟩
      ·rcases R2.new u r e with z | ⟨c,hc,W,k2⟩
       ·rcases R1.new u r z with z | z
        ·exact .inl z
        ·exact .inr (.inl z)
       ·exact .inr (.inr ⟨c,hc,W,nr k2⟩)
      ·rcases yD.mp hc with y | y
       ·obtain ⟨r,k⟩:=R1.all c y q hq;exact ⟨r,R2.old _ _ k⟩
       ·exact R2.all c y q hq
      ·show (if u∈wnL S2 ss (p++s) m then m else S2.bas u)=m;rw [yF ((cg u).mpr ⟨bv u M,M⟩)]
      ·show (if u∈wnL S2 ss (p++s) m then m else S2.bas u)=S.bas u;rw [yy (fun z=>M ((cg u).mp z).2),br]
     have hI:=I.merge b.gr hv hw (U ▸ hl) (O ▸ D) (O ▸ ao) (U ▸ de) cf ag hM
     have db:InR (pt qs) m (l1++m1) (S.bas v):=by
      rcases l1 with _ | ⟨x,r⟩
      ·rw [U] at X;cases X;exact .inl rfl
      ·rw [U] at X;cases X;exact .inr ⟨_,by simp,.inl rfl⟩
     have dc:InR (pt qs) m (l1++m1) (S.bas w):=by
      rcases m1 with _ | ⟨x,r⟩
      ·rw [O] at A;cases A;exact .inl rfl
      ·rw [O] at A;cases A;exact .inr ⟨_,by simp,.inl rfl⟩
     refine q1 H9 _ (ap++bb) ?_ (bg.trans cq) hI ((hM.inn v db).trans (hM.inn w dc).symm) ⟨fun u z e=>?_,fun u e=>by rw [hM.par];exact e,hM.old⟩
     ·rw [<- Ym];exact h9.drop (l:=a.ex) fun c hc=>by simp [Fo.add,hc]
     ·by_cases G:InR (pt qs) m (l1++m1) (S.bas u)
      ·rw [hM.inn u G,hM.inn z (by rw [<- e];exact G)]
      ·rw [hM.out u G,hM.out z (by rw [<- e];exact G),e]
  ·rw [yl an];refine qag ?_;ext;refine .inl (h2.obj.rd T 2 rfl ?_);ext;refine h2.rowAt hv fun tv cx=>?_;ext;refine qgH ?_;ext;refine .inl (h2.obj.rd T 2 rfl ?_);ext;refine h2.rowAt hw fun tw cy=>?_;ext;refine ⟨1,rfl,?_⟩;refine ⟨_,rfl,rfl,tw,_,rfl,.of cy,fun c1 aa=>?_⟩;have N:=qF aq (o:=.lst (g.map V.str).reverse) aa;have cp:=qF (Sr H2) (o:=.lst (g.map V.str).reverse) aa;have ac:upd H2 c1 (.lst (g.map V.str).reverse) c1=some (.lst (g.reverse.map V.str)):=by rw [qb,List.map_reverse]
   generalize upd H2 c1 (.lst (g.map V.str).reverse)=H3 at N cp ac;refine qeH (cp _ _ cx) ac (by rw [ya,ya,YD];omega) fun c2 ah=>?_;have n2:=(h.same N).newA ah;have t2:=qF N (o:=.lst (rv.map V.str++g.reverse.map V.str)) ah;have ad:upd H3 c2 (.lst (rv.map V.str++g.reverse.map V.str)) c2=some (.lst ((rv++g.reverse).map V.str)):=by rw [qb,yE]
   generalize upd H3 c2 (.lst (rv.map V.str++g.reverse.map V.str))=H4 at t2 ad;obtain ⟨W,k2⟩:=(h.same t2).setL (v:=.ref c2) (t2 _ _ ak) (fun e=>by cases e);ext;refine .inl ⟨a.x,cc 9,dx,fs,rfl,t2 _ _ ak,T.fcl,T.fa _ (by decide +kernel),W,?_⟩;have dq:c2≠a.x:=fun z=>n2 (Fo.sub _ (by rw [z];simp [Fo.six]));exact q2 _ c2 _ k2 ((Bx.of t2).upd (by simp [Fo.six])) (by rw [qf dq];exact ad) n2 (I.aug b.gr hv hw hl D (by rw [ax,ay];simpa using an) cf) (by rw [yt,YD];omega)
theorem Kx:FnScope ["self","place","other","partner"] ["self","place"] (qg qX):=fS
noncomputable def FS.setPar (S:FS) (u p:Str):FS:=⟨S.rows,fun s=>if s=u then some p else S.par s,S.bas⟩
inductive spLa (cc:Nat->Addr) (cw:Addr) (vs:List V) (H:Hp) (Q:VK) (E:XK):Prop|mk (H0:Hp) (a:Fo) (ss:List Str) (ns:List Nat) (qs:List (Str×Str)) (S:FS) (dn wt:List Str) (v:Str) (A:Str->Str->Prop) (_:vs=[.ref a.x,.str v]) (_:FoA (cc 9) cw H0 H a ss ns qs S ss (dn++[v]) wt .non) (_:Wb A ss qs) (_:(∀ s∈ss,zd s=true)) (_:(∀ (j:Nat) z u,ss[j]?=some z->(u∈inB ss 0 (ns.getD j 0)↔A z u))) (_:(∀ z∈ss,pt qs z=none->S.rows z≠none)) (_:FI A (pt qs) S) (_:CI A S (fun u=>u∈dn)) (_:(∀ (H':Hp) (S':FS) (more:List Str),FoA (cc 9) cw H0 H' a ss ns qs S' ss (dn++[v]) (wt++more) .non->Bx a.six H H'->FI A (pt qs) S'->CI A S' (fun u=>u∈dn++[v])->Mono S S'->Q .non H')) (_:∀ (H':Hp) (S':FS) (more:List Str) (t:Addr) (r:List Str),FoA (cc 9) cw H0 H' a ss ns qs S' ss (dn++[v]) (wt++more) (.ref t)->Bx a.six H H'->H' t=some (.lst (r.map V.str))->t∉a.all->Aug A (pt qs) r->r.length<=28->Q .non H')
theorem CI.on (h:CI A S Pd) (m:Mono S S'):CI A S' Pd:=h.mono m.ba m.pa fun u a=>by
 cases e:S.rows u with
 | none=>exact absurd e a
 | some r=>rw [m.ro u r e];exact fun z=>by cases z
theorem FoA.setP {a:Fo} {bs:List Str} {d:List (Key×V)} {p:Str} (h:FoA (cc 9) cw H0 H a ss ns qs S bs dn wt lo) (C:H a.da=some (.dK d)) (g:u∈ss) (f:S.par u=none):FoA (cc 9) cw H0 (upd H a.da (.dK (zc d (Sum.inr u) (.str p)))) a ss ns qs (S.setPar u p) bs dn wt lo/\d.length<=ss.length:=by
 obtain ⟨E,P,R,T⟩:=h.row;obtain ⟨k',r,M,N⟩:=h.par;obtain ⟨k,t,v,w⟩:=h.bas;obtain ⟨xs,A,B⟩:=h.rng;rw [C] at r;cases r;obtain ⟨⟨U,J,W,X,Y⟩,⟨K,Z,n8,n9⟩,⟨i,j,l⟩,⟨F,G⟩,I⟩:=(by simpa [Fo.six] using h.sep:(¬a.x=a.dr/\¬a.x=a.da/\¬a.x=a.ds/\¬a.x=a.dg/\¬a.x=a.dw)/\(¬a.dr=a.da/\¬a.dr=a.ds/\¬a.dr=a.dg/\¬a.dr=a.dw)/\(¬a.da=a.ds/\¬a.da=a.dg/\¬a.da=a.dw)/\(¬a.ds=a.dg/\¬a.ds=a.dw)/\¬a.dg=a.dw);have n:Bx a.six H (upd H a.da (.dK (zc d (Sum.inr u) (.str p)))):=(Bx.of (Sr H)).upd (by simp [Fo.six]);obtain ⟨O,L,q,m⟩:=M;refine ⟨⟨qaj h.sm (h.fr _ (by simp [Fo.six])),h.web,h.prt,h.fr,h.nd,fun c hc=>⟨(h.exf c hc).1,(h.exf c hc).2.1,(h.exf c hc).2.2.elim fun o e=>⟨o,n _ _ (h.exf c hc).2.1 e⟩⟩,h.obj.eq (qf J),⟨E,by rw [qf K];exact P,R,fun y=>(T y).mono n Fo.sub⟩,⟨_,qb,⟨O++[u],by have:=jI d (Sum.inr u:Key) (.str p);rw [yt];show _<=_+1;omega,Yi.mpr ⟨q,XH _ _,fun x b y D e=>(m u (by rw [<- yA.mp D,<- e];exact b)).2 f⟩,fun x b=>?_⟩,fun s=>?_⟩,⟨k,by rw [qf (Yh i)];exact t,v,w⟩,⟨xs,by rw [qf (Yh j)];exact A,B⟩,by rw [qf (Yh l)];exact h.wai,h.evn,h.evi,h.evs⟩,yi L (zq q fun x b=>(m x b).1)⟩
 ·show x∈ss/\(if x=u then some p else S.par x)≠none;by_cases e:x=u
  ·rw [yF e,e];exact ⟨g,fun z=>by cases z⟩
  ·rw [yy e];exact m x ((yD.mp b).resolve_right fun z=>e (yA.mp z))
 ·rw [qaS,N];show _=(if s=u then some p else S.par s).map V.str;by_cases e:s=u
  ·subst e;rw [yF rfl,yF rfl];rfl
  ·rw [yy (fun x=>e (xk x)),yy e]
theorem ok_la (F:Fun K "look_around" "Forest.look_around" qX f fd) (T:Txt K mg cc cw) (KB:MethOk P w K mg base CX0 6 cw "beside" ["self","place"] (spBs cw)) (K6:MethOk P w K mg base CX0 3 (cc 9) "bring_together" ["self","one","other"] (spBt cc cw)) (Kw:MethOk P w K mg base CX0 1 (cc 9) "reach" ["self","place","row"] (spRe cc cw)):FnOk P w K mg base CX0 7 f fd ["self","place"] (spLa cc cw):=by
 refine F.ok Kx fun _ _ _ s H vs Q E hr h=>?_
 ·obtain ⟨H0,a,ss,ns,qs,S,dn,wt,v,B,rfl,h,d,bg,av,bb,I,hC,q1,q2⟩:=h;have R:=jV hr;refine ⟨_,(qe (jf yU rfl (qU (K:=K) rfl (qD KB (hmR hr) (qA (K:=K) rfl (pv 0) rfl) (qa (pv 1) qd))) (qq (i:=2) Kx.nd rfl (yK rfl))
 (qc (qN (qp (zw (K:=K) rfl R) (pv 2) (qA (K:=K) rfl (pv 0) rfl) (by with_unfolding_all rfl)) (qe (qI (qD K6 (hmR hr) (pv 0) (qa (pv 1) (qa (pv 2) qd))))) (qe (qN (qp (qaU (K:=K) rfl R) (pv 2) (qA (K:=K) rfl (pv 0) rfl) (by with_unfolding_all rfl)) (qc (qk (i:=3) Kx.nd rfl (yK rfl) (qr (qt (K:=K) rfl R) (qA (K:=K) rfl (pv 0) rfl) (pv 2) (fun _ _=>rfl)))
 (qc (jv (pv 1) (jy (qA (K:=K) rfl (pv 0) rfl) (pv 2) (jB R)))
 (qe (qI (qD Kw (hmR hr) (pv 0) (qa (pv 3) (qa (qx (jU (K:=K) rfl) (qr (qt (K:=K) rfl R) (qA (K:=K) rfl (pv 0) rfl) (pv 1) (fun _ _=>rfl)) (qJ (qa (pv 2) (qa (pv 3) qd)))) qd))))))) qv)))
 (qe (qN (qp qcK (qA (K:=K) rfl (pv 0) rfl) zE (qC _)) (qe ps_retN) qv))))),?_⟩
  have am:v∈ss:=h.evs v (by simp)
  obtain ⟨rv,az⟩:∃ r,S.rows v=some r:=by
   cases e:S.rows v with
   | none=>exact absurd e ((h.evi v).mp (by simp))
   | some r=>exact ⟨r,rfl⟩
  obtain ⟨j,hj⟩:=yf am;have ae:=h.web.same h.sm;obtain ⟨wx,dd,ol,nn,hb,_⟩:=id ae;ext;refine .inl (h.obj.rd T 0 rfl ?_);refine ⟨a.b,wx,_,rfl,hb,j8 (by decide +kernel),?_⟩;ext;refine ⟨a.b,ss,ns,v,j,rfl,ae,hj,fun H1 s1 bl af=>?_⟩;have l:=fun u=>av j v u hj;have N:(inB ss 0 (ns.getD j 0)).length<=14:=yi (qaJ _ _ _) d.few;generalize inB ss 0 (ns.getD j 0)=bes at l N ⊢;have be:=(h.same s1).new af;have s2:=qF s1 (o:=.lst (bes.map V.str)) af;have eb:upd H1 bl (.lst (bes.map V.str)) bl=some (.lst (bes.map V.str)):=qb;generalize upd H1 bl (.lst (bes.map V.str))=H2 at s2 eb;have h2:=h.same s2;refine .inl ⟨⟨_,.of eb⟩,qT (xs:=bes.map V.str) (fun i σ J=>∃ (S':FS) (c:List Str) (y2 y3:Option V),σ=[some (.ref a.x),some (.str v),y2,y3]/\FoA (cc 9) cw H0 J a ss ns qs S' ss (dn++[v]) (wt++c) .non/\Bx a.six H2 J/\FI B (pt qs) S'/\Mono S S'/\∀ u∈bes.take i,S'.bas u=S'.bas v\/(S'.par u≠none/\u∉dn++[v])) ⟨S,[],_,_,rfl,by rw [Yd];exact h2,fun _ _ _ e=>e,I,Mono.refl S,(fun u R=>by simp at R)⟩ (fun i σ J _ hp=>?_) (fun i y σ J hy hp=>?_) fun σ J hp=>?_⟩
  ·obtain ⟨S',c,y2,y3,rfl,_,A,_⟩:=hp;exact .of (A _ _ be eb)
  ·obtain ⟨S',c,y2,y3,rfl,g,A,G,D,M⟩:=hp;rw [yd] at hy;obtain ⟨u,ai,rfl⟩:=yn.mp hy;have U:B v u:=(l u).mp (ye ai);have ak:u∈ss:=d.inn _ _ (d.gr.as U);have m:=D.ro v rv az;have O:bes.take (i+1)=bes.take i++[u]:=by rw [yM,ai];rfl
   obtain ⟨kr,r1,r2,r3⟩:=g.row;have q:=r3 u;ext;refine .inl (g.obj.rd T 2 rfl ?_);refine .inr (.inl ⟨a.dr,_,rfl,DGet.k (k:=Sum.inr u) r1,?_⟩)
   cases C:S'.rows u with
   | some ru =>
    rw [C] at q;obtain ⟨tu,k1,k2,_⟩:=q;rw [k1];refine ⟨_,rfl,qag ?_⟩;ext;obtain ⟨dx,fs,X,_,_,_,Y⟩:=id g.obj;refine ⟨a.x,dx,fs,rfl,X,Y _ (by decide +kernel),?_⟩;ext;refine ⟨H0,a,ss,ns,qs,S',dn++[v],wt++c,v,u,rv,ru,B,rfl,g,d,G,m,C,U,fun H5 S5 bd h5 L I5 au m5=>?_,fun H5 t5 r5 h5 L e5 n5 aq ax=>?_⟩
    ·ext;refine .inl (h5.obj.rd T 7 rfl ?_);ext;refine ⟨rfl,_,rfl,qQ (fun h=>by simp at h) fun _=>?_⟩;refine ⟨S5,c++bd,_,_,rfl,by rw [<- Ym wt];exact h5,A.trans L,I5,D.trans m5,fun z hz=>?_⟩;rw [O] at hz;rcases yD.mp hz with hz | hz
     ·exact (M z hz).imp (m5.ba z v) fun y=>⟨m5.pa z y.1,y.2⟩
     ·rw [yA.mp hz];exact .inl au.symm
    ·ext;refine .inl (h5.obj.rd T 7 rfl ?_);ext;refine ⟨rfl,_,rfl,qag ?_⟩;exact q2 H5 S' c t5 r5 h5 (((Bx.of s2).trans A).trans L) e5 n5 aq ax
   | none =>
    rw [C] at q;have ah:jG kr (.inr u:Key)=none:=q;rw [ah];have aj:u∉dn++[v]:=fun z=>(g.evi u).mp (yO _ z) C;refine ⟨_,rfl,qQ (fun h=>by cases h) fun _=>?_⟩;obtain ⟨ka,p1,p2,p3⟩:=g.par;ext;refine .inl (g.obj.rd T 3 rfl ?_);refine .inr (.inl ⟨a.da,_,rfl,DGet.k (k:=Sum.inr u) p1,?_⟩);rw [p3]
    cases ep:S'.par u with
    | some z =>
     refine ⟨_,rfl,qQ (fun h=>by cases h) fun _=>?_⟩;ext;refine .inl (g.obj.rd T 7 rfl ?_);ext;refine ⟨rfl,_,rfl,qQ (fun h=>by simp at h) fun _=>?_⟩;refine ⟨S',c,_,_,rfl,g,A,G,D,fun z hz=>?_⟩;rw [O] at hz;rcases yD.mp hz with hz | hz
     ·exact M z hz
     ·rw [yA.mp hz];exact .inr ⟨by rw [ep];exact (fun y=>by cases y),aj⟩
    | none =>
     refine ⟨_,rfl,qag ?_⟩
     obtain ⟨y,t⟩:∃ y,pt qs u=some y:=by
      cases e:pt qs u with
      | some y=>exact ⟨y,rfl⟩
      | none =>
       exfalso;have k:=bb u ak e
       cases e2:S.rows u with
       | none=>exact k e2
       | some r=>rw [D.ro u r e2] at C;cases C
     have bc:y∈ss:=d.inn _ _ (d.gr.as (d.gr.fa t));have an:=G.fresh d.gr C ep t;have ay:=g.sm _ _ h.prt;obtain ⟨Z,bf⟩:=g.setP (p:=v) p1 ak ep;have bi:=d.few;ext;refine .inl (g.obj.rd T 1 rfl ?_);ext;refine qdI ay (by rw [jL,t];rfl) ?_;ext;refine .inl (g.obj.rd T 3 rfl ?_);ext;refine .inr ⟨a.da,_,rfl,DPut.k (k:=Sum.inr u) p1 (by rw [YL];omega),?_⟩;have aa:Bx a.six H2 (upd J a.da (.dK (zc ka (Sum.inr u) (.str v)))):=A.upd (by simp [Fo.six]);generalize upd J a.da (.dK (zc ka (Sum.inr u) (.str v)))=J3 at Z aa;ext;obtain ⟨dx,fs,X,_,_,_,Y⟩:=id Z.obj;refine ⟨a.x,dx,fs,rfl,X,Y _ (by decide +kernel),?_⟩;ext;refine .inl (Z.obj.rd T 2 rfl ?_);ext;refine Z.rowAt (S:=S'.setPar u v) m fun tv ap=>?_;ext;refine ⟨by show 2<=sizeLine;decide,fun c1 aw=>?_⟩;have t1:=qF (Sr J3) (o:=.lst [.str u,.str y]) aw;have ac:upd J3 c1 (.lst [.str u,.str y]) c1=some (.lst [.str u,.str y]):=qb;generalize upd J3 c1 (.lst [.str u,.str y])=J4 at t1 ac;have bh:=((G.alt v rv m).inn d am).1;refine qeH (t1 _ _ ap) ac (by rw [ya];show _+2<=_;omega) fun c2 ag=>?_;have n2:=(Z.same t1).newA ag;have t2:=qF t1 (o:=.lst (rv.map V.str++[.str u,.str y])) ag;have ad:upd J4 c2 (.lst (rv.map V.str++[.str u,.str y])) c2=some (.lst ((rv++[u,y]).map V.str)):=by rw [qb,yE];rfl
     generalize upd J4 c2 (.lst (rv.map V.str++[.str u,.str y]))=J5 at t2 ad;ext;refine ⟨H0,a,ss,ns,qs,S'.setPar u v,ss,dn++[v],wt++c,.non,y,c2,rv++[u,y],rfl,Z.same t2,d.few,ad,n2,bc,an,fun H6 h6 ao _=>?_⟩;have W:Gw S' ((S'.setPar u v).setRow y (rv++[u,y])) v u y rv:=⟨yF rfl,fun s hs=>yy hs,yF rfl,fun s hs=>yy hs,rfl⟩;have I6:=G.grow d.gr m U C ep t W
     have m6:Mono S' ((S'.setPar u v).setRow y (rv++[u,y])):=⟨fun _ _ e=>e,fun z hz=>by
      show (if z=u then some v else S'.par z)≠none;split
      ·exact fun x=>by cases x
      ·exact hz,fun z r e=>by rw [W.ro z (fun x=>by rw [x,an] at e;cases e)];exact e⟩
     ext;refine .inl (h6.obj.rd T 7 rfl ?_);ext;refine ⟨rfl,_,rfl,qQ (fun h=>by simp at h) fun _=>?_⟩;refine ⟨_,c++[y],_,_,rfl,by rw [<- Ym wt];exact h6,(aa.trans (Bx.of t2)).trans ao,I6,D.trans m6,fun z hz=>?_⟩;rw [O] at hz;rcases yD.mp hz with hz | hz
     ·exact (M z hz).imp (m6.ba z v) fun y=>⟨m6.pa z y.1,y.2⟩
     ·rw [yA.mp hz];exact .inr ⟨by rw [W.pu];exact (fun x=>by cases x),aj⟩
  ·obtain ⟨S',c,y2,y3,rfl,g,A,G,D,M⟩:=hp;rw [ya,yS] at M;refine q1 J S' c g ((Bx.of s2).trans A) G ?_ D;have ar:=hC.on D;refine ⟨fun z u hz n=>?_,fun z hz=>?_⟩
   ·rcases yD.mp hz with hz1 | hz1
    ·by_cases al:u=v
     ·rw [al] at n ⊢;rcases M z ((l z).mpr (d.gr.as n)) with y | y
      ·exact .inl y.symm
      ·exact absurd (yO _ hz1) y.2
     ·rcases ar.cl z u hz1 n with y | ⟨y1,y2⟩
      ·exact .inl y
      ·exact .inr ⟨y1,fun x=>(yD.mp x).elim y2 fun x=>al (yA.mp x)⟩
    ·rw [yA.mp hz1] at n ⊢;exact M u ((l u).mpr n)
   ·exact (g.evi z).mp (yO _ hz)
theorem K9:FnScope ["self","place"] ["self"] (qg jY):=fS
structure FoD (cf cw:Addr) (H0 H:Hp) (a:Fo) (ss:List Str) (ns:List Nat) (qs:List (Str×Str)) (S:FS) (dn wt:List Str) (lo:V) (A:Str->Str->Prop):Prop where
 fo:FoA cf cw H0 H a ss ns qs S ss dn wt lo
 en:(lo=.non/\wt=[]/\FI A (pt qs) S/\CI A S (fun u=>u∈dn)/\∀ z∈ss,pt qs z=none->S.rows z≠none)\/∃ t r,lo=.ref t/\H t=some (.lst (r.map V.str))/\t∉a.all/\Aug A (pt qs) r/\r.length<=28
noncomputable def S0:FS:=⟨fun _=>none,fun _=>none,fun s=>s⟩
noncomputable def SI (qs:List (Str×Str)) (l:List Str):FS:=⟨fun s=>if s∈l/\pt qs s=none then some [s] else none,fun _=>none,fun s=>s⟩
theorem SI_nil (qs:List (Str×Str)):SI qs []=S0:=by unfold SI S0;simp
theorem SI_on (h:pt qs z=none):SI qs (l++[z])=(SI qs l).setRow z [z]:=by
 unfold SI FS.setRow
 congr 1
 funext s;dsimp only;by_cases e:s=z
 ·subst e;rw [yF ⟨by simp,h⟩,yF rfl]
 ·rw [yy e];have:s∈l++[z]↔s∈l:=by simp [e]
  simp only [this]
theorem SI_off (h:pt qs z≠none):SI qs (l++[z])=SI qs l:=by
 unfold SI
 congr 1
 funext s;by_cases e:s=z
 ·subst e;rw [yy (fun k=>h k.2),yy (fun k=>h k.2)]
 ·have:s∈l++[z]↔s∈l:=by simp [e]
  simp only [this]
inductive spGw (cc:Nat->Addr) (cw:Addr) (vs:List V) (H:Hp) (Q:VK) (E:XK):Prop|mk (H0:Hp) (a:Fo) (ss:List Str) (ns:List Nat) (qs:List (Str×Str)) (A:Str->Str->Prop) (_:vs=[.ref a.x]) (_:FoA (cc 9) cw H0 H a ss ns qs S0 [] [] [] .non) (_:Wb A ss qs) (_:(∀ s∈ss,zd s=true)) (_:(∀ (j:Nat) z u,ss[j]?=some z->(u∈inB ss 0 (ns.getD j 0)↔A z u))) (_:∀ (H':Hp) (S:FS) (dn wt:List Str) (lo:V),FoD (cc 9) cw H0 H' a ss ns qs S dn wt lo A->Bx a.six H H'->Q .non H')
theorem ix_natF {k:Nat} (h:k<n):seqIndex? (k:Int) n=some k:=by
 unfold seqIndex?;simp;omega
theorem nin_prF {d:Addr} {Q:VK} (a:H d=some (.dK (prK qs))) (q:Q (.bl (!(pt qs s).isSome)) H):qex K true (.str s) (.ref d) H Q:=by
 refine .inr (.inl ⟨d,_,rfl,DGet.k (k:=Sum.inr s) a,?_⟩);rw [jL,yF rfl,Xm];exact q
theorem FoA.ne {a:Fo} {bs:List Str} (h:FoA (cc 9) cw H0 H a ss ns qs S bs dn wt lo):(¬a.x=a.dr/\¬a.x=a.da/\¬a.x=a.ds/\¬a.x=a.dg/\¬a.x=a.dw)/\(¬a.dr=a.da/\¬a.dr=a.ds/\¬a.dr=a.dg/\¬a.dr=a.dw)/\(¬a.da=a.ds/\¬a.da=a.dg/\¬a.da=a.dw)/\(¬a.ds=a.dg/\¬a.ds=a.dw)/\¬a.dg=a.dw:=by simpa [Fo.six] using h.sep
theorem FoA.setN {a:Fo} {bs:List Str} {ks:List (Key×V)} (h:FoA (cc 9) cw H0 H a ss ns qs S bs dn wt lo) (p:H a.ds=some (.dK ks)) (hz:S.bas z=z):FoA (cc 9) cw H0 (upd H a.ds (.dK (zc ks (Sum.inr z) (.str z)))) a ss ns qs S (bs++[z]) dn wt lo/\ks.length<=bs.length:=by
 obtain ⟨s,F,G,I⟩:=h.row;obtain ⟨r,C,D,E⟩:=h.par;obtain ⟨k,g,j,l⟩:=h.bas;obtain ⟨xs,m,n⟩:=h.rng;rw [p] at g;cases g;obtain ⟨⟨J,K,A,L,M⟩,⟨N,B,O,P⟩,⟨b,t,v⟩,⟨d,f⟩,w⟩:=h.ne;have i:Bx a.six H (upd H a.ds (.dK (zc ks (Sum.inr z) (.str z)))):=(Bx.of (Sr H)).upd (by simp [Fo.six]);refine ⟨⟨qaj h.sm (h.fr _ (by simp [Fo.six])),h.web,h.prt,h.fr,h.nd,fun c hc=>⟨(h.exf c hc).1,(h.exf c hc).2.1,(h.exf c hc).2.2.elim fun o e=>⟨o,i _ _ (h.exf c hc).2.1 e⟩⟩,h.obj.eq (qf A),⟨s,by rw [qf B];exact F,G,fun y=>(I y).mono i Fo.sub⟩,⟨r,by rw [qf b];exact C,D,E⟩,⟨_,qb,by have:=jI ks (Sum.inr z:Key) (.str z);rw [yt];show _<=_+1;omega,fun u q=>?_⟩,⟨xs,by rw [qf (Yh d)];exact m,n⟩,by rw [qf (Yh f)];exact h.wai,h.evn,h.evi,h.evs⟩,j⟩;rw [qaS];by_cases e:u=z
 ·subst e;rw [yF rfl,hz]
 ·rw [yy (fun x=>e (xk x))];exact l u ((yD.mp q).resolve_right fun y=>e (yA.mp y))
theorem FoA.pop {a:Fo} {bs:List Str} (h:FoA (cc 9) cw H0 H a ss ns qs S bs dn (v::wt) lo):FoA (cc 9) cw H0 (upd H a.dw (.lst (wt.map V.str))) a ss ns qs S bs (dn++[v]) wt lo:=by
 obtain ⟨r,C,D,E⟩:=h.row;obtain ⟨q,z,A,B⟩:=h.par;obtain ⟨k,j,l,m⟩:=h.bas;obtain ⟨xs,n,p⟩:=h.rng;obtain ⟨⟨F,G,I,J,w⟩,⟨K,L,M,x⟩,⟨s,t,d⟩,⟨u,f⟩,g⟩:=h.ne;have b:dn++[v]++wt=dn++v::wt:=by simp
 have i:Bx a.six H (upd H a.dw (.lst (wt.map V.str))):=(Bx.of (Sr H)).upd (by simp [Fo.six]);exact ⟨qaj h.sm (h.fr _ (by simp [Fo.six])),h.web,h.prt,h.fr,h.nd,fun c hc=>⟨(h.exf c hc).1,(h.exf c hc).2.1,(h.exf c hc).2.2.elim fun o e=>⟨o,i _ _ (h.exf c hc).2.1 e⟩⟩,h.obj.eq (qf w),⟨r,by rw [qf x];exact C,by rw [b];exact D,fun y=>(E y).mono i Fo.sub⟩,⟨q,by rw [qf d];exact z,A,B⟩,⟨k,by rw [qf f];exact j,l,m⟩,⟨xs,by rw [qf g];exact n,by rw [b];exact p⟩,qb,by rw [b];exact h.evn,by rw [b];exact h.evi,by rw [b];exact h.evs⟩
theorem ok_gw (F:Fun K "grow" "Forest.grow" jY f fd) (T:Txt K mg cc cw) (Kq:MethOk P w K mg base CX0 1 cw "places" ["self"] (spPls cw)) (Kw:MethOk P w K mg base CX0 1 (cc 9) "reach" ["self","place","row"] (spRe cc cw)) (ud:MethOk P w K mg base CX0 7 (cc 9) "look_around" ["self","place"] (spLa cc cw)):FnOk P w K mg base CX0 8 f fd ["self"] (spGw cc cw):=by
 refine F.ok K9 fun _ _ _ _ H vs Q E hr h=>?_
 ·obtain ⟨H0,a,ss,ns,qs,B,rfl,h,G,an,aj,q⟩:=h;have hu:=jV hr;have ap:=G.few;refine ⟨_,(qc (jf yU rfl (qU (K:=K) rfl (jj Kq (hmR hr) (qA (K:=K) rfl (pv 0) rfl))) (qq (i:=1) K9.nd rfl (yK rfl))
 (qc (jv (pv 1) (jy (qA (K:=K) rfl (pv 0) rfl) (pv 1) (jB hu)))
 (qe (qN (qp (qaU (K:=K) rfl hu) (pv 1) (qA (K:=K) rfl (pv 0) rfl) (by with_unfolding_all rfl)) (qe (qI (qD Kw (hmR hr) (pv 0) (qa (pv 1) (qa (qJ (qa (pv 1) qd)) qd))))) qv))))
 (qe (qaR yU (PW.pt (qa8 (qp qeB (qu (qai (K:=K) rfl) rfl T.b_len xJ (qa (qA (K:=K) rfl (pv 0) rfl) qd)) qh (qC _)) (qbP (qp qgA (qA (K:=K) rfl (pv 0) rfl) zE (qC _)))))
 (qe (qI (qD ud (hmR hr) (pv 0) (qa (qbI (K:=K) rfl yR PySem.F.slot_list_pop PySem.F.type_list_pop mtR_popAt (qA (K:=K) rfl (pv 0) rfl) (qa qh qd)) qd))))))),?_⟩
  have ac:=h.web.same h.sm;obtain ⟨wx,dd,ol,nn,hb,_⟩:=id ac;ext;refine .inl (h.obj.rd T 0 rfl ?_);refine ⟨a.b,wx,_,rfl,hb,j8 (by decide +kernel),?_⟩;ext;refine ⟨a.b,ss,ns,rfl,ac,fun pl ae=>?_⟩;have as:=h.new ae;have s1:=qF (Sr H) (o:=.lst (ss.map V.str)) ae;have e1:upd H pl (.lst (ss.map V.str)) pl=some (.lst (ss.map V.str)):=qb;generalize upd H pl (.lst (ss.map V.str))=H1 at s1 e1;refine .inl ⟨⟨_,.of e1⟩,qT (xs:=ss.map V.str) (fun i R J=>∃ (p:List Str) (Y:Option V),R=[some (.ref a.x),Y]/\FoA (cc 9) cw H0 J a ss ns qs (SI qs (ss.take i)) (ss.take i) [] p .non/\Bx a.six H1 J) ⟨[],_,rfl,by rw [List.take_zero,SI_nil];exact h.same s1,fun _ _ _ e=>e⟩ (fun i R J _ n=>?_) (fun i y R J hy n=>?_) fun R J n=>?_⟩
  ·obtain ⟨p,Y,rfl,_,Z⟩:=n;exact .of (Z _ _ as e1)
  ·obtain ⟨p,Y,rfl,X,Z⟩:=n;rw [yd] at hy;obtain ⟨z,hz,rfl⟩:=yn.mp hy;have aw:=(yc.mp hz).1;have ar:=ye hz;have af:ss.take (i+1)=ss.take i++[z]:=by rw [yM,hz];rfl
   obtain ⟨ks,b1,b2,b3⟩:=X.bas;rw [yP] at b2;obtain ⟨D,_⟩:=X.setN (z:=z) b1 rfl;ext;refine .inl (X.obj.rd T 4 rfl ?_);ext;refine .inr ⟨a.ds,_,rfl,DPut.k (k:=Sum.inr z) b1 (by rw [YL];omega),?_⟩;have s:Bx a.six H1 (upd J a.ds (.dK (zc ks (Sum.inr z) (.str z)))):=Z.upd (by simp [Fo.six]);generalize upd J a.ds (.dK (zc ks (Sum.inr z) (.str z)))=J2 at D s;have ao:=D.sm _ _ h.prt;ext;refine .inl (D.obj.rd T 1 rfl ?_);refine nin_prF ao ⟨_,rfl,?_⟩
   cases ez:pt qs z with
   | some y =>
    refine yq ?_;exact ⟨p,_,rfl,by rw [af,SI_off (by rw [ez];exact fun k=>nomatch k)];exact D,s⟩
   | none =>
    refine qag ?_;ext;obtain ⟨dx,fs,N,_,_,_,O⟩:=id D.obj;refine ⟨a.x,dx,fs,rfl,N,O _ (by decide +kernel),?_⟩;ext;refine ⟨by show 1<=sizeLine;decide,fun c1 ad=>?_⟩;have n1:=D.newA ad;have t1:=qF (Sr J2) (o:=.lst [.str z]) ad;have aa:upd J2 c1 (.lst [.str z]) c1=some (.lst ([z].map V.str)):=qb;generalize upd J2 c1 (.lst [.str z])=J3 at t1 aa
    have aq:z∉ss.take i:=fun y=>by
     obtain ⟨j,hj⟩:=yf y;have ak:=(yc.mp hj).1;rw [yP] at ak;rw [List.getElem?_take,yF (by omega)] at hj;have:=qy G.nd hj hz;omega
    ext;refine ⟨H0,a,ss,ns,qs,SI qs (ss.take i),ss.take i++[z],[],p,.non,z,c1,[z],rfl,D.same t1,ap,aa,n1,ar,yy (fun k=>aq k.1),fun H6 h6 ah _=>?_⟩;exact ⟨p++[z],_,rfl,by rw [af,SI_on ez];exact h6,(s.trans (Bx.of t1)).trans ah⟩
  ·obtain ⟨p,Y,rfl,X,Z⟩:=n;rw [ya,yS] at X;have ag:Bx a.six H J:=(Bx.of s1).trans Z
   have IJ:FI B (pt qs) (SI qs ss):=FI.start (fun v r e=>by
    have e':(if v∈ss/\pt qs v=none then some [v] else none)=some r:=e;split at e'
    ·rename_i k;exact ⟨k.2,(ym e').symm⟩
    ·cases e') (fun _=>rfl) fun _=>rfl
   ext;obtain ⟨W,g⟩:∃ W:Nat->L2.St->Hp->Prop,W=fun m R J=>∃ (S:FS) (dn wt:List Str) (lo:V) (Y:Option V),R=[some (.ref a.x),Y]/\Bx a.six H J/\((lo=.non/\m=15-dn.length/\FoA (cc 9) cw H0 J a ss ns qs S ss dn wt .non/\FI B (pt qs) S/\CI B S (fun u=>u∈dn)/\∀ z∈ss,pt qs z=none->S.rows z≠none)\/(lo≠.non/\m=0/\FoD (cc 9) cw H0 J a ss ns qs S dn wt lo B)):=⟨_,rfl⟩;refine ⟨W,⟨15,by rw [g];exact ⟨SI qs ss,[],p,.non,_,rfl,ag,.inl ⟨rfl,rfl,X,IJ,⟨(fun v u k=>by cases k),(fun v k=>by cases k)⟩,fun z hz e=>by show (if _ then _ else _)≠none;rw [yF ⟨hz,e⟩];exact fun k=>by cases k⟩⟩⟩,fun m R J hW=>?_⟩;rw [g] at hW;obtain ⟨S,dn,wt,lo,ax,rfl,d,L⟩:=hW;rcases L with ⟨rfl,hm,l,I,hC,M⟩ | ⟨am,hm,U⟩
   ·have c:=l.wai;ext;refine .inl (l.obj.rd T 6 rfl ?_);ext;refine qbV c ?_;rw [ya];ext
    cases wt with
    | nil =>
     refine qQ (fun h=>by simp at h) fun _=>qQ (fun h=>by cases h) fun _=>?_;exact q J S dn [] .non ⟨l,.inl ⟨rfl,rfl,I,hC,M⟩⟩ d
    | cons v wt =>
     refine qQ (fun _=>?_) fun h=>absurd (yB (by simp)) h;ext;refine .inl (l.obj.rd T 7 rfl ?_);ext;refine ⟨_,rfl,qag ⟨fun au H'=>∃ m',m'<m/\W m' au H',fun _ _ z=>z,?_⟩⟩;have av:dn.length+1<=14:=by have:=l.few;rw [yt,yC] at this;omega
     ext;obtain ⟨dx,fs,N,_,_,_,O⟩:=id l.obj;refine ⟨a.x,dx,fs,rfl,N,O _ (by decide +kernel),?_⟩;ext;refine .inl (l.obj.rd T 6 rfl ?_);refine ⟨.inl ⟨rfl,_,.of c⟩,?_⟩;ext;refine ⟨a.dw,_,0,0,.str v,rfl,rfl,c,by decide,by decide,by rw [ya];exact ix_natF (by simp),rfl,?_⟩;have n:=l.pop;have C:Bx a.six H (upd J a.dw (.lst (wt.map V.str))):=d.upd (by simp [Fo.six]);ext;show spLa cc cw _ (upd J a.dw (.lst (wt.map V.str))) _ _;generalize upd J a.dw (.lst (wt.map V.str))=J2 at n C;refine ⟨H0,a,ss,ns,qs,S,dn,wt,v,B,rfl,n,G,an,aj,M,I,hC,fun H5 S5 mo h5 A I5 C5 m5=>?_,fun H5 S5 mo t5 r5 h5 A e5 n5 ai al=>?_⟩
     ·refine ⟨15-(dn++[v]).length,by rw [hm,yt];show _-(_+1)<_;omega,?_⟩;rw [g]
      exact ⟨S5,dn++[v],wt++mo,.non,_,rfl,C.trans A,.inl ⟨rfl,rfl,h5,I5,C5,fun z hz e=>(by
       have k:=M z hz e
       cases e2:S.rows z with
       | none=>exact absurd e2 k
       | some r=>rw [m5.ro z r e2];exact fun x=>by cases x)⟩⟩
     ·refine ⟨0,by omega,?_⟩;rw [g];exact ⟨S5,dn++[v],wt++mo,.ref t5,_,rfl,C.trans A,.inr ⟨(fun e=>by cases e),rfl,⟨h5,.inr ⟨t5,r5,rfl,e5,n5,ai,al⟩⟩⟩⟩
   ·have c:=U.fo.wai;rcases U.en with k | ⟨t,r,rfl,_⟩
    ·exact absurd k.1 am
    ext;refine .inl (U.fo.obj.rd T 6 rfl ?_);ext;refine qbV c ?_;ext;refine qQ (fun _=>?_) (fun _=>qQ (fun h=>by cases h) fun _=>q J S dn wt _ U d);ext;refine .inl (U.fo.obj.rd T 7 rfl ?_);ext;refine ⟨_,rfl,qQ (fun h=>by cases h) fun _=>?_⟩;exact q J S dn wt _ U d
theorem uK:FnScope ["self","web","pairs"] ["self","web","pairs"] (qg jZ):=fS
theorem uT:FnScope ["self"] ["self"] (qg zk):=fS
theorem uu:FnScope ["self"] ["self"] (qg je):=fS
noncomputable def qfn (p:Addr) (H:Hp):Hp:=fun b=>if b=p then none else H b
theorem zB {b:Addr} (h:b≠p):qfn p H b=H b:=yy h
theorem lkn {f g:Str} {v:V} {fs:List (Str×V)} (h:f≠g) (k:fs.lookup f=none):(qE g v fs).lookup f=none:=by rw [qB,yy h];exact k
inductive spFi (cc:Nat->Addr) (cw:Addr) (vs:List V) (H:Hp) (Q:VK) (E:XK):Prop|mk (x dx b r:Addr) (ss:List Str) (ns:List Nat) (us:List Addr) (tps qs:List (Str×Str)) (A:Str->Str->Prop) (_:vs=[.ref x,.ref b,.ref r]) (_:H x=some (.ins (cc 9) dx [])) (_:WebAt cw H b ss ns) (_:Adj ss ns tps) (_:Wb A ss qs) (_:(∀ s∈ss,zd s=true)) (_:(∀ (j:Nat) z u,ss[j]?=some z->(u∈inB ss 0 (ns.getD j 0)↔A z u))) (_:PL H r us qs) (_:qs.length<=30) (_:(∀ q∈qs,(q∈tps\/(q.2,q.1)∈tps)/\q.1∈ss/\q.2∈ss/\q.1≠q.2)) (_:∀ (H0 H':Hp) (a:Fo) (S:FS) (dn wt:List Str) (lo:V),a.x=x->a.ex=[]->FoD (cc 9) cw H0 H' a ss ns qs S dn wt lo A->L2.Same (qfn x H) H0->Q .non H')
theorem WebAt.out {b:Addr} {fs:List (Str×V)} (h:WebAt cw H b ss ns) (a:H x=some (.ins (cc 9) dx fs)) (i:b≠x):WebAt cw (qfn x H) b ss ns:=by
 obtain ⟨j,d,ol,n,h1,c,e,f,g⟩:=h;refine ⟨j,d,ol,n,(zB i).trans h1,(zB ?_).trans c,(zB ?_).trans e,(zB ?_).trans f,g⟩
 ·exact qan c a (fun z=>by cases z)
 ·exact qan e a (fun z=>by cases z)
 ·exact qan f a (fun z=>by cases z)
theorem ok_fi (F:Fun K "__init__" "Forest.__init__" jZ f fd) (T:Txt K mg cc cw) (Kn:DefOk P w K mg base CX0 9 "partners_in" ["web","pairs"] (spPn cw)) (uU:MethOk P w K mg base CX0 8 (cc 9) "grow" ["self"] (spGw cc cw)):FnOk P w K mg base CX0 10 f fd ["self","web","pairs"] (spFi cc cw):=by
 refine F.ok uK fun _ _ _ s H vs Q E hr h=>?_
 ·obtain ⟨x,dx,b,r,ss,ns,us,tps,qs,B,rfl,hx,hW,hA,bt,cg,ce,hP,ch,ci,q⟩:=h;have hu:=jV hr;refine ⟨_,(qc (jJ (K:=K) rfl (pv 0) (pv 1) rfl)
 (qc (jJ (K:=K) rfl (pv 0) (qm Kn (hmR hr) qz (qa (pv 1) (qa (pv 2) qd))) rfl)
 (qc (jJ (K:=K) rfl (pv 0) jM rfl)
 (qc (jJ (K:=K) rfl (pv 0) jM rfl)
 (qc (jJ (K:=K) rfl (pv 0) jM rfl)
 (qc (jJ (K:=K) rfl (pv 0) (qJ qd) rfl)
 (qc (jJ (K:=K) rfl (pv 0) (qJ qd) rfl)
 (qc (jJ (K:=K) rfl (pv 0) zE rfl)
 (qe (qI (jj uU (hmR hr) (pv 0)))))))))))),?_⟩
  have bz:b≠x:=fun e=>by
   obtain ⟨wx,d,ol,n,hb,_⟩:=id hW;subst e;rw [hx] at hb;injection hb with hb;injection hb with _ _ hb;cases hb
  have cp:r≠x:=qan hP.1 hx (fun z=>by cases z)
  have cq:∀ u∈us,u≠x:=fun u hu=>by
   obtain ⟨q,_,eu⟩:=hP.2.mem hu;exact qan eu hx (fun z=>by cases z)
  have fa:∀ i,(h:i<8)->NoAttr K (cc 9) (fAtt.getD i ""):=fun i h=>T.fa _ (by have:i<fAtt.length:=h;rw [Yr,yb this];exact xQ this);ext;refine .inl ⟨x,cc 9,dx,[],rfl,hx,T.fcl,fa 0 (by decide),by decide,?_⟩;have b1:=(But.refl x H).put (o:=.ins (cc 9) dx (qE "board" (.ref b) []));have bp:upd H x (.ins (cc 9) dx (qE "board" (.ref b) [])) x=some (.ins (cc 9) dx (qE "board" (.ref b) [])):=qb;generalize upd H x (.ins (cc 9) dx (qE "board" (.ref b) []))=H1 at b1 bp ⊢
  have keepW:∀ {J:Hp},But x H J->WebAt cw J b ss ns:=fun k=>by
   obtain ⟨wx,d,ol,n,h1,h2,h3,h4,h5⟩:=hW;exact ⟨wx,d,ol,n,k _ _ bz h1,k _ _ (qan h2 hx (fun z=>by cases z)) h2,k _ _ (qan h3 hx (fun z=>by cases z)) h3,k _ _ (qan h4 hx (fun z=>by cases z)) h4,h5⟩
  have cb:PL H1 r us qs:=⟨b1 _ _ cp hP.1,hP.2.len,fun k t ab ht cd=>b1 _ _ (cq t (ye ht)) (hP.2.at_ k t ab ht cd)⟩;ext;refine ⟨b,r,ss,ns,us,tps,qs,rfl,keepW b1,hA,cb,⟨ci,bt.qn,ch⟩,fun dp H2 s2 bg cf=>?_⟩;have bv:=s2 _ _ bp;have b2:=b1.same s2;have co:dp≠x:=fun e=>by rw [e,bp] at bg;cases bg
  have hl:∀ {f:Str} {v:V} {fs:List (Str×V)} {n:Nat},fs.length<=n->(qE f v fs).length<=n+1:=fun h=>yi (ju _ _ _) (by omega);ext;refine .inl ⟨x,cc 9,dx,_,rfl,bv,T.fcl,fa 1 (by decide),Yo (hl (n:=0) (yh _)) (by decide),?_⟩
  have c3:L2.Same (qfn x H2) (upd H2 x (.ins (cc 9) dx (qE "partners" (.ref dp) (qE "board" (.ref b) [])))):=fun c o e=>by
   have hc:c≠x:=fun z=>by rw [z] at e;unfold qfn at e;rw [yF rfl] at e;cases e
   rw [zB hc] at e;rw [qf hc];exact e
  have ap:upd H2 x (.ins (cc 9) dx (qE "partners" (.ref dp) (qE "board" (.ref b) []))) x=some (.ins (cc 9) dx (qE "partners" (.ref dp) (qE "board" (.ref b) []))):=qb;obtain ⟨H0,ac⟩:∃ H0,H0=qfn x H2:=⟨_,rfl⟩;rw [<- ac] at c3;have D:H0 x=none:=by rw [ac];exact yF rfl
  have l3:(qE "partners" (.ref dp) (qE "board" (.ref b) [])).length<=2:=hl (hl (n:=0) (yh _));generalize upd H2 x (.ins (cc 9) dx (qE "partners" (.ref dp) (qE "board" (.ref b) [])))=H3 at c3 ap ⊢;obtain ⟨f3,bh⟩:∃ f3,f3=qE "partners" (.ref dp) (qE "board" (.ref b) []):=⟨_,rfl⟩;rw [<- bh] at ap l3;ext;intro m ao;have C:m≠x:=fun e=>by rw [e,ap] at ao;cases ao
  have cu:H0 m=none:=c3.free ao;have cj:upd H3 m (.dK []) x=some (.ins (cc 9) dx f3):=by rw [qf C.symm];exact ap
  ext;refine .inl ⟨x,cc 9,dx,_,rfl,cj,T.fcl,fa 2 (by decide),Yo l3 (by decide),?_⟩;have c4:L2.Same H0 (upd (upd H3 m (.dK [])) x (.ins (cc 9) dx (qE "rows" (.ref m) f3))):=qaj (qF c3 ao) D;have aq:(upd (upd H3 m (.dK [])) x (.ins (cc 9) dx (qE "rows" (.ref m) f3))) x=some (.ins (cc 9) dx (qE "rows" (.ref m) f3)):=qb;have l4:(qE "rows" (.ref m) f3).length<=3:=hl l3;have U:(upd (upd H3 m (.dK [])) x (.ins (cc 9) dx (qE "rows" (.ref m) f3))) m=some (.dK []):=by rw [qf C,qb]
  generalize upd (upd H3 m (.dK [])) x (.ins (cc 9) dx (qE "rows" (.ref m) f3))=H4 at c4 aq U ⊢;obtain ⟨f4,bi⟩:∃ f,f=qE "rows" (.ref m) f3:=⟨_,rfl⟩;rw [<- bi] at aq l4;ext;intro l G;have I:l≠x:=fun e=>by rw [e,aq] at G;cases G
  have cs:H0 l=none:=c4.free G;have ad:l≠m:=fun e=>by rw [e,U] at G;cases G
  have ck:upd H4 l (.dK []) x=some (.ins (cc 9) dx f4):=by rw [qf I.symm];exact aq
  ext;refine .inl ⟨x,cc 9,dx,_,rfl,ck,T.fcl,fa 3 (by decide),Yo l4 (by decide),?_⟩;have c5:L2.Same H0 (upd (upd H4 l (.dK [])) x (.ins (cc 9) dx (qE "parents" (.ref l) f4))):=qaj (qF c4 G) D;have ar:(upd (upd H4 l (.dK [])) x (.ins (cc 9) dx (qE "parents" (.ref l) f4))) x=some (.ins (cc 9) dx (qE "parents" (.ref l) f4)):=qb;have l5:(qE "parents" (.ref l) f4).length<=4:=hl l4;have M:(upd (upd H4 l (.dK [])) x (.ins (cc 9) dx (qE "parents" (.ref l) f4))) l=some (.dK []):=by rw [qf I,qb]
  have W:(upd (upd H4 l (.dK [])) x (.ins (cc 9) dx (qE "parents" (.ref l) f4))) m=some (.dK []):=by rw [qf C,qf (Yh ad)];exact U
  generalize upd (upd H4 l (.dK [])) x (.ins (cc 9) dx (qE "parents" (.ref l) f4))=H5 at c5 ar W M ⊢;obtain ⟨f5,bj⟩:∃ f,f=qE "parents" (.ref l) f4:=⟨_,rfl⟩;rw [<- bj] at ar l5;ext;intro j A;have ah:j≠x:=fun e=>by rw [e,ar] at A;cases A
  have cv:H0 j=none:=c5.free A;have aj:j≠m:=fun e=>by rw [e,W] at A;cases A
  have ai:j≠l:=fun e=>by rw [e,M] at A;cases A
  have cl:upd H5 j (.dK []) x=some (.ins (cc 9) dx f5):=by rw [qf ah.symm];exact ar
  ext;refine .inl ⟨x,cc 9,dx,_,rfl,cl,T.fcl,fa 4 (by decide),Yo l5 (by decide),?_⟩;have c6:L2.Same H0 (upd (upd H5 j (.dK [])) x (.ins (cc 9) dx (qE "bases" (.ref j) f5))):=qaj (qF c5 A) D;have as:(upd (upd H5 j (.dK [])) x (.ins (cc 9) dx (qE "bases" (.ref j) f5))) x=some (.ins (cc 9) dx (qE "bases" (.ref j) f5)):=qb;have l6:(qE "bases" (.ref j) f5).length<=5:=hl l5;have Z:(upd (upd H5 j (.dK [])) x (.ins (cc 9) dx (qE "bases" (.ref j) f5))) j=some (.dK []):=by rw [qf ah,qb]
  have X:(upd (upd H5 j (.dK [])) x (.ins (cc 9) dx (qE "bases" (.ref j) f5))) m=some (.dK []):=by rw [qf C,qf (Yh aj)];exact W
  have N:(upd (upd H5 j (.dK [])) x (.ins (cc 9) dx (qE "bases" (.ref j) f5))) l=some (.dK []):=by rw [qf I,qf (Yh ai)];exact M
  generalize upd (upd H5 j (.dK [])) x (.ins (cc 9) dx (qE "bases" (.ref j) f5))=H6 at c6 as X N Z ⊢;obtain ⟨f6,bm⟩:∃ f,f=qE "bases" (.ref j) f5:=⟨_,rfl⟩;rw [<- bm] at as l6;ext;refine ⟨by show 0<=sizeLine;decide,fun g y=>?_⟩;have av:g≠x:=fun e=>by rw [e,as] at y;cases y
  have ct:H0 g=none:=c6.free y;have af:g≠m:=fun e=>by rw [e,X] at y;cases y
  have ae:g≠l:=fun e=>by rw [e,N] at y;cases y
  have ag:g≠j:=fun e=>by rw [e,Z] at y;cases y
  have cm:upd H6 g (.lst []) x=some (.ins (cc 9) dx f6):=by rw [qf av.symm];exact as
  ext;refine .inl ⟨x,cc 9,dx,_,rfl,cm,T.fcl,fa 5 (by decide),Yo l6 (by decide),?_⟩;have c7:L2.Same H0 (upd (upd H6 g (.lst [])) x (.ins (cc 9) dx (qE "rings" (.ref g) f6))):=qaj (qF c6 y) D;have au:(upd (upd H6 g (.lst [])) x (.ins (cc 9) dx (qE "rings" (.ref g) f6))) x=some (.ins (cc 9) dx (qE "rings" (.ref g) f6)):=qb;have l7:(qE "rings" (.ref g) f6).length<=6:=hl l6;have R:(upd (upd H6 g (.lst [])) x (.ins (cc 9) dx (qE "rings" (.ref g) f6))) g=some (.lst []):=by rw [qf av,qb]
  have Y:(upd (upd H6 g (.lst [])) x (.ins (cc 9) dx (qE "rings" (.ref g) f6))) m=some (.dK []):=by rw [qf C,qf (Yh af)];exact X
  have O:(upd (upd H6 g (.lst [])) x (.ins (cc 9) dx (qE "rings" (.ref g) f6))) l=some (.dK []):=by rw [qf I,qf (Yh ae)];exact N
  have aa:(upd (upd H6 g (.lst [])) x (.ins (cc 9) dx (qE "rings" (.ref g) f6))) j=some (.dK []):=by rw [qf ah,qf (Yh ag)];exact Z
  generalize upd (upd H6 g (.lst [])) x (.ins (cc 9) dx (qE "rings" (.ref g) f6))=H7 at c7 au Y O aa R ⊢;obtain ⟨L,bn⟩:∃ f,f=qE "rings" (.ref g) f6:=⟨_,rfl⟩;rw [<- bn] at au l7;ext;refine ⟨by show 0<=sizeLine;decide,fun a p=>?_⟩;have br:a≠x:=fun e=>by rw [e,au] at p;cases p
  have cx:H0 a=none:=c7.free p;have am:a≠m:=fun e=>by rw [e,Y] at p;cases p
  have ak:a≠l:=fun e=>by rw [e,O] at p;cases p
  have an:a≠j:=fun e=>by rw [e,aa] at p;cases p
  have al:a≠g:=fun e=>by rw [e,R] at p;cases p
  have cn:upd H7 a (.lst []) x=some (.ins (cc 9) dx L):=by rw [qf br.symm];exact au
  ext;refine .inl ⟨x,cc 9,dx,_,rfl,cn,T.fcl,fa 6 (by decide),Yo l7 (by decide),?_⟩;have c8:L2.Same H0 (upd (upd H7 a (.lst [])) x (.ins (cc 9) dx (qE "waiting" (.ref a) L))):=qaj (qF c7 p) D;have bq:(upd (upd H7 a (.lst [])) x (.ins (cc 9) dx (qE "waiting" (.ref a) L))) x=some (.ins (cc 9) dx (qE "waiting" (.ref a) L)):=qb;have l8:(qE "waiting" (.ref a) L).length<=7:=hl l7;have be:(upd (upd H7 a (.lst [])) x (.ins (cc 9) dx (qE "waiting" (.ref a) L))) a=some (.lst []):=by rw [qf br,qb]
  have ba:(upd (upd H7 a (.lst [])) x (.ins (cc 9) dx (qE "waiting" (.ref a) L))) m=some (.dK []):=by rw [qf C,qf (Yh am)];exact Y
  have aw:(upd (upd H7 a (.lst [])) x (.ins (cc 9) dx (qE "waiting" (.ref a) L))) l=some (.dK []):=by rw [qf I,qf (Yh ak)];exact O
  have bc:(upd (upd H7 a (.lst [])) x (.ins (cc 9) dx (qE "waiting" (.ref a) L))) j=some (.dK []):=by rw [qf ah,qf (Yh an)];exact aa
  have ay:(upd (upd H7 a (.lst [])) x (.ins (cc 9) dx (qE "waiting" (.ref a) L))) g=some (.lst []):=by rw [qf av,qf (Yh al)];exact R
  generalize upd (upd H7 a (.lst [])) x (.ins (cc 9) dx (qE "waiting" (.ref a) L))=H8 at c8 bq ba aw bc ay be ⊢;obtain ⟨f8,bo⟩:∃ f,f=qE "waiting" (.ref a) L:=⟨_,rfl⟩;rw [<- bo] at bq l8;ext;refine .inl ⟨x,cc 9,dx,_,rfl,bq,T.fcl,fa 7 (by decide),Yo l8 (by decide),?_⟩;have c9:L2.Same H0 (upd H8 x (.ins (cc 9) dx (qE "longer" .non f8))):=qaj c8 D;have bx:(upd H8 x (.ins (cc 9) dx (qE "longer" .non f8))) x=some (.ins (cc 9) dx (qE "longer" .non f8)):=qb;have l9:(qE "longer" .non f8).length<=8:=hl l8;have bb:(upd H8 x (.ins (cc 9) dx (qE "longer" .non f8))) m=some (.dK []):=by rw [qf C];exact ba
  have ax:(upd H8 x (.ins (cc 9) dx (qE "longer" .non f8))) l=some (.dK []):=by rw [qf I];exact aw
  have bd:(upd H8 x (.ins (cc 9) dx (qE "longer" .non f8))) j=some (.dK []):=by rw [qf ah];exact bc
  have az:(upd H8 x (.ins (cc 9) dx (qE "longer" .non f8))) g=some (.lst []):=by rw [qf av];exact ay
  have bf:(upd H8 x (.ins (cc 9) dx (qE "longer" .non f8))) a=some (.lst []):=by rw [qf br];exact be
  generalize upd H8 x (.ins (cc 9) dx (qE "longer" .non f8))=H9 at c9 bx bb ax bd az bf ⊢
  have hF:FoA (cc 9) cw H0 H9 ⟨x,b,dp,m,l,j,g,a,[]⟩ ss ns qs S0 [] [] [] .non:=by
   refine ⟨c9,?_,?_,fun c hc=>?_,?_,(fun c hc=>by cases hc),⟨dx,_,bx,kI l9,fun _=>l9,fun f v hf=>?_,fun f hf=>?_⟩,⟨[],bb,yh _,fun _=>rfl⟩,⟨[],ax,⟨[],yh _,.nil,(fun u hu=>by cases hu)⟩,fun _=>rfl⟩,⟨[],bd,yh _,(fun s hs=>by cases hs)⟩,⟨[],az,yh _⟩,bf,.nil,fun v=>⟨(fun k=>by cases k),fun k=>absurd rfl k⟩,(fun v hv=>by cases hv)⟩
   ·rw [ac];exact (keepW b2).out bv bz
   ·rw [ac];exact (zB co).trans cf
   ·simp only [Fo.six,yv,yG,Yl] at hc;rcases hc with rfl | rfl | rfl | rfl | rfl | rfl<;>assumption
   ·simp [ad.symm,aj.symm,af.symm,am.symm,ai.symm,ae.symm,ak.symm,ag.symm,an.symm,al.symm]
   ·simp only [Fo.tab,yv,Xy,yG,Yl] at hf;rw [bo,bn,bm,bj,bi,bh];rcases hf with ⟨rfl,rfl⟩ | ⟨rfl,rfl⟩ | ⟨rfl,rfl⟩ | ⟨rfl,rfl⟩ | ⟨rfl,rfl⟩ | ⟨rfl,rfl⟩ | ⟨rfl,rfl⟩ | ⟨rfl,rfl⟩<;>rfl
   ·rw [bo,bn,bm,bj,bi,bh];have no:∀ i,i<8->f≠fAtt.getD i "":=fun i hi e=>hf (by rw [e,Yr,yb (show i<fAtt.length from hi)];exact xQ _);exact lkn (no 7 (by decide)) (lkn (no 6 (by decide)) (lkn (no 5 (by decide)) (lkn (no 4 (by decide)) (lkn (no 3 (by decide)) (lkn (no 2 (by decide)) (lkn (no 1 (by decide)) (lkn (no 0 (by decide)) rfl)))))))
  ext;obtain ⟨ca,fs,bu,_,_,_,bw⟩:=id hF.obj;refine ⟨x,ca,fs,rfl,bu,bw _ (by decide +kernel),?_⟩;ext;refine ⟨H0,_,ss,ns,qs,B,rfl,hF,bt,cg,ce,fun HA S dn wt lo hD cr=>?_⟩;refine q H0 HA _ S dn wt lo rfl rfl hD fun c o e=>?_;have hc:c≠x:=fun z=>by rw [z] at e;unfold qfn at e;rw [yF rfl] at e;cases e
  rw [zB hc] at e;rw [ac,zB hc];exact b2 _ _ hc e
inductive spFr (cc:Nat->Addr) (cw:Addr) (vs:List V) (H:Hp) (Q:VK) (E:XK):Prop|mk (H0:Hp) (a:Fo) (ss:List Str) (ns:List Nat) (qs:List (Str×Str)) (S:FS) (dn wt:List Str) (lo:V) (A:Str->Str->Prop) (_:vs=[.ref a.x]) (_:FoD (cc 9) cw H0 H a ss ns qs S dn wt lo A) (_:(lo=.non->Q .non H)) (_:∀ (t:Addr) (r:List Str),lo=.ref t->H t=some (.lst (r.map V.str))->Aug A (pt qs) r->∀ l,H l=none->Q (.ref l) (upd H l (.lst (r.map V.str))))
inductive spFd2 (cc:Nat->Addr) (cw:Addr) (vs:List V) (H:Hp) (Q:VK) (E:XK):Prop|mk (H0:Hp) (a:Fo) (ss:List Str) (ns:List Nat) (qs:List (Str×Str)) (S:FS) (dn wt:List Str) (lo:V) (A:Str->Str->Prop) (_:vs=[.ref a.x]) (_:FoD (cc 9) cw H0 H a ss ns qs S dn wt lo A) (_:ss.length<=14) (_:(lo≠.non->Q .non H)) (_:(lo=.non->∀ (l:Addr) (H':Hp),L2.Same H H'->H l=none->H' l=some (.lst ((ss.filter fun s=>(S.rows s).isSome).map V.str))->Q (.ref l) H'))
theorem ok_fr (F:Fun K "row" "Forest.row" zk f fd) (T:Txt K mg cc cw):FnOk P w K mg base CX0 1 f fd ["self"] (spFr cc cw):=by
 refine F.ok uT fun _ _ _ _ H vs Q E i h=>?_
 ·obtain ⟨H0,a,ss,ns,qs,S,dn,wt,lo,B,rfl,b,e,g⟩:=h;refine ⟨_,(qe (qj (qc2 (qp qgA (qA (K:=K) rfl (pv 0) rfl) zE (qC _)) zE (j3 (qbY (K:=K) rfl rfl) rfl T.b_list Xj (qa (qA (K:=K) rfl (pv 0) rfl) qd))))),?_⟩;ext;refine .inl (b.fo.obj.rd T 7 rfl ?_);ext;rcases b.en with ⟨rfl,_⟩ | ⟨t,r,rfl,c,j,d,_⟩
  ·refine ⟨_,rfl,qag ?_⟩;ext;exact e rfl
  ·refine ⟨_,rfl,qQ (fun h=>by cases h) fun _=>?_⟩;ext;refine .inl (b.fo.obj.rd T 7 rfl ?_);ext;exact .inl ⟨t,_,rfl,.inl (.of c),g t r rfl c d⟩
theorem ok_fd2 (F:Fun K "reached" "Forest.reached" je f fd) (T:Txt K mg cc cw) (D:MethOk P w K mg base CX0 1 cw "places" ["self"] (spPls cw)):FnOk P w K mg base CX0 2 f fd ["self"] (spFd2 cc cw):=by
 refine F.ok uu fun _ _ _ s H vs Q E x h=>?_
 ·obtain ⟨H0,a,ss,ns,qs,S,dn,wt,lo,B,rfl,v,G,N,O⟩:=h;have M:=jV x;refine ⟨_,(qc (qN (qp qcK (qA (K:=K) rfl (pv 0) rfl) zE (qC _)) (qe (qj zE)) qv)
 (qe (qj (ji (sc:=qg je) (XN:=["self"]) ["place","self"] 1 [0] rfl rfl rfl (by decide +kernel) rfl (by decide +kernel)
  (qU (K:=K) rfl (jj D (hmR x) (qA (K:=K) rfl (pv 0) rfl))) (fun _ _ _ _=>(qq (i:=0) (show (["place","self"]:List Str).Nodup by decide +kernel) rfl (yK rfl))) jc
  (fun _ _ _ _=>(jr (qp (zw (K:=K) rfl M) (pv 0) (qA (K:=K) rfl (pv 1) rfl) (by with_unfolding_all rfl))))
  (fun _ _ _ _=>(pv 0)))))),?_⟩
  have h:=v.fo;ext;refine .inl (h.obj.rd T 7 rfl ?_);ext;rcases v.en with ⟨rfl,_⟩ | ⟨t,r,rfl,_⟩
  ·refine ⟨rfl,_,rfl,qQ (fun h=>by simp at h) fun _=>?_⟩;have g:=h.web.same h.sm;obtain ⟨W,X,ol,Y,I,_⟩:=id g;ext;refine .inl (h.obj.rd T 0 rfl ?_);refine ⟨a.b,W,_,rfl,I,j8 (by decide +kernel),?_⟩;ext;refine ⟨a.b,ss,ns,rfl,g,fun pl u=>?_⟩;have n:=qF (Sr H) (o:=.lst (ss.map V.str)) u;have p:upd H pl (.lst (ss.map V.str)) pl=some (.lst (ss.map V.str)):=qb;generalize upd H pl (.lst (ss.map V.str))=H1 at n p;have h1:=h.same n;obtain ⟨C,R,Z,U⟩:=h1.row;refine .inl ⟨⟨_,.of p⟩,qZ (xs:=ss.map V.str) (fun i ys J=>J=H1/\ys=((ss.take i).filter fun s=>(S.rows s).isSome).map V.str) ⟨rfl,rfl⟩ (fun i ys J _ m=>by rw [m.1];exact .of p) (fun i y ys J A m=>?_) fun ys J m=>?_⟩
   ·obtain ⟨rfl,rfl⟩:=m;rw [yd] at A;obtain ⟨z,hz,rfl⟩:=yn.mp A;have L:=(yc.mp hz).1;have j:=yW (fun s=>(S.rows s).isSome) (ss.take i);rw [yP] at j
    have d:(ss.take (i+1)).filter (fun s=>(S.rows s).isSome)=(ss.take i).filter (fun s=>(S.rows s).isSome)++(if (S.rows z).isSome=true then [z] else []):=by
     rw [yM,hz,Yp];show _++[z].filter _=_;rw [yT,YK]
    ext;refine .inl (h1.obj.rd T 2 rfl ?_);refine .inr (.inl ⟨a.dr,_,rfl,DGet.k (k:=Sum.inr z) R,?_⟩);have c:=U z
    have q:(jG C (.inr z:Key)).isSome=(S.rows z).isSome:=by
     cases e:S.rows z with
     | none=>rw [e] at c;rw [show jG C (.inr z:Key)=none from c];rfl
     | some r=>rw [e] at c;obtain ⟨t,k,_⟩:=c;rw [k];rfl
    rw [yy (by decide),q,d];refine ⟨_,rfl,?_⟩
    cases (S.rows z).isSome with
    | true =>
     refine qag ?_;rw [yF rfl];ext;exact ⟨by rw [ya];exact qi (by omega),rfl,by rw [yE];rfl⟩
    | false =>
     refine yq ?_;rw [yy (by decide),Yd];exact ⟨rfl,rfl⟩
   ·obtain ⟨rfl,rfl⟩:=m;rw [show (ss.map V.str).length=ss.length from ya _,yS];have j:=yW (fun s=>(S.rows s).isSome) ss;refine ⟨by rw [ya];exact Yc (qi (by omega)),fun l hl=>?_⟩;exact O rfl l _ (qF n hl) (n.free hl) qb
  ·refine ⟨rfl,_,rfl,qag ?_⟩;ext;exact N (fun e=>by cases e)
theorem uh:FnScope ["web","pairs","partners"] ["web","pairs"] (qg jS):=fS
theorem Kz:FnScope ["web","thing","seen","place"] ["web","thing"] (qg jd):=fS
theorem eqv_str (a b:Str):eqV (.str a) (.str b)=decide (a=b):=by
 unfold eqV;by_cases h:a=b<;>simp [h]
theorem vEqS {i j:Str} {Q:VK} (q:Q (.bl (decide (i=j))) H):qf3 K (.str i) (.str j) H Q:=.inl (.inl (.inl ⟨rfl,rfl,by rw [yy (by decide),eqv_str];exact q⟩))
noncomputable def qbr (a qs:List (Str×Str)):List (Str×Str):=a.filter fun q=>decide (pt qs q.1=some q.2)
inductive spTp (cw:Addr) (vs:List V) (H:Hp) (Q:VK) (E:XK):Prop|mk (x l:Addr) (ss:List Str) (ns:List Nat) (us:List Addr) (tps qs:List (Str×Str)) (_:vs=[.ref x,.ref l]) (_:WebAt cw H x ss ns) (_:Adj ss ns tps) (_:PL H l us qs) (_:PGo ss tps qs) (_:∀ (l:Addr) (ls:List Addr) (H':Hp),L2.Same H H'->H l=none->H' l=some (.lst (ls.map V.ref))->ls.length<=196->All2 (PrAt H H' l) ls (qbr (qR ss ns ss.length) qs)->Q (.ref l) H')
noncomputable def stp (rs:List Str):List (Str×Str):=rs.zip rs.tail
noncomputable def prB (qs:List (Str×Str)) (ab:Str×Str):Bool:=decide (pt qs ab.1=some ab.2)
theorem stp_at:(stp rs)[j]?=some ab↔rs[j]?=some ab.1/\rs[j+1]?=some ab.2:=by
 unfold stp;rw [List.getElem?_zip_eq_some,Xa]
theorem qal (rs:List Str):(stp rs).length=rs.length-1:=by unfold stp;rw [List.length_zip,xU];omega
structure RowG (ss:List Str) (tps qs:List (Str×Str)) (rs:List Str):Prop where
 nd:rs.Nodup
 two:2<=rs.length
 few:rs.length<=1000
 inn:∀ r∈rs,r∈ss
 tie:∀ (j:Nat) ab,(stp rs)[j]?=some ab->(ab∈tps\/(ab.2,ab.1)∈tps)/\prB qs ab=decide (j % 2=1)
 hd:∀ s,rs[0]?=some s->pt qs s=none
 tl:∀ s,rs[rs.length-1]?=some s->pt qs s=none
structure Rw (cw:Addr) (H:Hp) (x l a:Addr) (ss:List Str) (ns:List Nat) (us:List Addr) (tps qs:List (Str×Str)) (rs:List Str):Prop where
 web:WebAt cw H x ss ns
 adj:Adj ss ns tps
 prs:PL H l us qs
 pgo:PGo ss tps qs
 row:H a=some (.lst (rs.map V.str))
 rok:RowG ss tps qs rs
theorem Rw.same {l a:Addr} (h:Rw cw H x l a ss ns us tps qs rs) (s:L2.Same H H'):Rw cw H' x l a ss ns us tps qs rs:=
 ⟨h.web.same s,h.adj,h.prs.same s,h.pgo,s _ _ h.row,h.rok⟩
inductive spUl (cw:Addr) (vs:List V) (H:Hp) (Q:VK) (E:XK):Prop|mk (x a:Addr) (ss:List Str) (ns:List Nat) (rs:List Str) (_:vs=[.ref x,.ref a]) (_:WebAt cw H x ss ns) (_:H a=some (.lst (rs.map V.str))) (_:rs.Nodup) (_:rs.length<=1000) (_:(∀ r∈rs,r∈ss)) (_:∀ H',L2.Same H H'->Q (.bl true) H')
inductive spGt (cw:Addr) (vs:List V) (H:Hp) (Q:VK) (E:XK):Prop|mk (x l d a:Addr) (ss:List Str) (ns:List Nat) (us:List Addr) (tps qs:List (Str×Str)) (rs:List Str) (_:vs=[.ref x,.ref d,.ref a]) (_:Rw cw H x l a ss ns us tps qs rs) (_:H d=some (.dK (prK qs))) (_:∀ H',L2.Same H H'->Q (.bl true) H')
inductive spIr (cw:Addr) (vs:List V) (H:Hp) (Q:VK) (E:XK):Prop|mk (x l a:Addr) (ss:List Str) (ns:List Nat) (us:List Addr) (tps qs:List (Str×Str)) (rs:List Str) (_:vs=[.ref x,.ref l,.ref a]) (_:Rw cw H x l a ss ns us tps qs rs) (_:∀ H',L2.Same H H'->Q (.bl true) H')
theorem qfo {Q:VK} (q:Q (.bl (decide (pt qs s=some t))) H):qf3 K (((pt qs s).map V.str).getD .non) (.str t) H Q:=by
 cases e:pt qs s with
 | none=>rw [e] at q;exact .inl (.inl (.inl ⟨rfl,rfl,q⟩))
 | some u =>
  refine vEqS ?_;rw [e] at q
  rwa [show decide (u=t)=decide (some u=some t) from YA.mpr ⟨congrArg some,ym⟩]
theorem ok_tp (F:Fun K "told_pairs" "told_pairs" jS f fd) (T:Txt K mg cc cw) (R:DefOk P w K mg base CX0 9 "partners_in" ["web","pairs"] (spPn cw)) (ue:MethOk P w K mg base CX0 7 cw "ties" ["self"] (spTs cw)):FnOk P w K mg base CX0 10 f fd ["web","pairs"] (spTp cw):=by
 refine F.ok uh fun _ _ _ _ H vs Q E J h=>?_
 ·obtain ⟨x,pl,ss,ns,ps,tps,qs,rfl,C,S,W,U,q⟩:=h;have A:=jV J;obtain ⟨wx,dd,ol,nn,X,_⟩:=id C;refine ⟨_,(qc (qk (i:=2) uh.nd rfl (XT rfl) (qm R (hmR J) qz (qa (pv 0) (qa (pv 1) qd))))
 (qe (qj (ji (sc:=qg jS) (XN:=["web","pairs","partners"]) ["tie","partners"] 1 [2] rfl rfl rfl (by decide +kernel) rfl (by decide +kernel)
  (qU (K:=K) rfl (jj ue (hmR J) (pv 0))) (fun _ _ _ _=>(qq (i:=0) (show (["tie","partners"]:List Str).Nodup by decide +kernel) rfl (yK rfl))) jc
  (fun _ _ _ _=>(jr (qp (zM (K:=K) rfl A) (qaq (qfQ A) (pv 1) (qr (qt (K:=K) rfl A) (pv 0) qh (fun _ _=>rfl)) ⟨rfl,rfl,rfl,rfl⟩) (qr (qt (K:=K) rfl A) (pv 0) qh (fun _ _=>rfl)) (qC _))))
  (fun _ _ _ _=>(pv 0)))))),?_⟩
  ext;refine ⟨x,pl,ss,ns,ps,tps,qs,rfl,C,S,W,U,fun d H1 B Z Y=>?_⟩;ext;refine ⟨x,wx,_,rfl,B _ _ X,j8 (by decide +kernel),?_⟩;ext;refine ⟨x,ss,ns,rfl,C.same B,fun l ts H2 O aa hl D b=>?_⟩;have p:=O _ _ Y;have s:=B.trans O;refine .inl ⟨⟨_,.of hl⟩,qZ (xs:=ts.map V.ref) (fun i ys G=>G=H2/\∃ us:List Addr,ys=us.map V.ref/\us.length<=i/\All2 (fun t ab=>H1 t=none/\H2 t=some (.tup [.str ab.1,.str ab.2])) us (qbr ((qR ss ns ss.length).take i) qs)) ⟨rfl,[],rfl,yh _,.nil⟩ (fun i ys G _ a=>by rw [a.1];exact .of hl) (fun i y ys G N a=>?_) fun ys G a=>?_⟩
  ·obtain ⟨rfl,us,rfl,r,m⟩:=a;rw [yd] at N;obtain ⟨t,M,rfl⟩:=yn.mp N;have hi:i<ts.length:=(yc.mp M).1;obtain ⟨ab,n⟩:∃ ab,(qR ss ns ss.length)[i]?=some ab:=⟨_,yb (by rw [<- b.len];exact hi)⟩;obtain ⟨z1,z2,L⟩:=b.at_ i t ab M n
   have c:qbr ((qR ss ns ss.length).take (i+1)) qs=qbr ((qR ss ns ss.length).take i) qs++(if pt qs ab.1=some ab.2 then [ab] else []):=by
    unfold qbr;rw [yM,n,Yp];show _++[ab].filter _=_;rw [yT];simp only [XW,YK]
   ext;refine qcy ?_;ext;refine ⟨d,rfl,.inl ⟨_,.inl p⟩,?_⟩;ext;refine .inl (qbj L (v:=.str ab.1) (qo (j:=0) rfl) ?_);refine ⟨_,DGet.k (k:=Sum.inr ab.1) p,?_⟩;rw [jL];ext;refine .inl (qbj L (v:=.str ab.2) (qo (j:=1) rfl) ?_);refine qfo ?_;ext;rw [c];refine qQ (fun I=>?_) (fun I=>?_)
   ·rw [yF (yk I)];ext;exact ⟨by rw [ya];exact qi (by omega),rfl,us++[t],by rw [yE];rfl,by rw [yt];simp;omega,m.snoc ⟨z1,L⟩⟩
   ·rw [yy (fun e=>I (yB e)),Yd];exact ⟨rfl,us,rfl,by omega,m⟩
  ·obtain ⟨rfl,us,rfl,r,m⟩:=a;have e:(ts.map V.ref).length=(qR ss ns ss.length).length:=by rw [ya,b.len]
   rw [e,yS] at m;rw [ya] at r;refine ⟨by rw [ya];exact Yc (qi (by omega)),fun g u=>?_⟩;have s3:=qF s (o:=.lst (us.map V.ref)) u;exact q g us _ s3 (s.free u) qb (by omega) (m.mono fun t ab z=>⟨B.free z.1,(fun e=>by rw [e,u] at z;cases z.2),by rw [qf (fun e=>by rw [e,u] at z;cases z.2)];exact z.2⟩)
theorem ok_ul (F:Fun K "are_unlike_places" "are_unlike_places" jd f fd) (T:Txt K mg cc cw) (L:MethOk P w K mg base CX0 3 cw "has_place" ["self","thing"] (spHas cw)):FnOk P w K mg base CX0 4 f fd ["web","thing"] (spUl cw):=by
 refine F.ok Kz fun _ _ _ _ H vs Q E D h=>?_
 ·obtain ⟨x,a,ss,ns,rs,rfl,A,l,n,hl,m,q⟩:=h;have G:=jV D;refine ⟨_,(qc (qN (q8 (qY (qu (qaw (K:=K) rfl) rfl T.b_isinstance YR (qa (pv 1) (qa (jT (v:=.ty "list") rfl T.b_list Xj rfl) qd))))) (qe (qj jF)) qv)
 (qc (qk (i:=2) Kz.nd rfl (yK rfl) jM)
 (qc (jf yU rfl (qU (K:=K) rfl (pv 1)) (qq (i:=3) Kz.nd rfl (yK rfl))
 (qc (qN (PW.pt (qbQ (q8 (qY (qD L (hmR D) (pv 0) (qa (pv 3) qd)))) (qaL (qp (zw (K:=K) rfl G) (pv 3) (pv 2) (by with_unfolding_all rfl))))) (qe (qj jF)) qv)
 (qe (jv jF (jy (pv 2) (pv 3) (jB G))))))
 (qe (qj jF))))),?_⟩
  ext;refine qbx (.inl (.lst l)) rfl (zK K "list" (by simp) "list" (by simp)) ?_;ext;refine yq ?_;ext;intro d B;have p:=qF (Sr H) (o:=.dK []) B;have t:upd H d (.dK []) d=some (.dK (qb3 [])):=qb;generalize upd H d (.dK [])=H1 at p t;obtain ⟨O,S,ol,U,M,_⟩:=id A;ext;refine .inl ⟨⟨_,.of (p _ _ l)⟩,qT (xs:=rs.map V.str) (fun i j J=>L2.Same H J/\∃ s,j=[some (.ref x),some (.ref a),some (.ref d),s]/\J d=some (.dK (qb3 (rs.take i)))) ⟨p,_,rfl,t⟩ (fun i j J _ c=>.of (c.1 _ _ l)) (fun i y j J I c=>?_) fun j J c=>?_⟩
  ·obtain ⟨g,s,rfl,b⟩:=c;rw [yd] at I;obtain ⟨z,hz,rfl⟩:=yn.mp I;have N:i<rs.length:=(yc.mp hz).1;have e:rs.take (i+1)=rs.take i++[z]:=by rw [yM,hz];rfl
   have C:z∉rs.take i:=fun y=>by
    have u:(rs.take (i+1)).Nodup:=n.sublist (XS _ _);rw [e] at u;exact (Yi.mp u).2.2 _ y z (by simp) rfl
   ext;refine ⟨x,O,_,rfl,g _ _ M,j8 (by decide +kernel),?_⟩;ext;refine ⟨x,ss,ns,z,rfl,A.same g,m z (ye hz),fun R r=>?_⟩;ext;refine yq ?_;ext;refine .inr (.inl ⟨d,_,rfl,DGet.k (k:=Sum.inr z) (r _ _ b),?_⟩);rw [yy (by decide),zN,yl C];ext;refine yq ?_;ext;refine .inr ⟨d,_,rfl,DPut.k (k:=Sum.inr z) (r _ _ b) (qi (by unfold qb3;rw [ya,yP];omega)),?_⟩;refine ⟨qaj (g.trans r) B,_,rfl,?_⟩;rw [qb,qb4 C,e]
  ·obtain ⟨g,s,rfl,b⟩:=c;ext;exact q J g
theorem uM:FnScope ["web","pairs","thing","partners"] ["web","pairs","thing"] (qg qaZ):=fS
theorem KH:FnScope ["web","partners","names","steps","paired"] ["web","partners","names"] (qg qO):=fS
theorem KP:FnScope ["web","pairs","thing","partners","first","last"] ["web","pairs","thing"] (qg qac):=fS
theorem qa0 (rs:List V):qcL rs (some 1) none=rs.tail:=by
 have:=qcx rs 1
 rwa [List.drop_one] at this
theorem qfV:∀ {bs:List Bool},(∀ b∈bs,b=true)->bs.all id=true:=fun h=>Yz.mpr h
theorem qel {l:Addr} {ys:List Str} (Z:Zl H H' l ts (xs.map V.str) (ys.map V.str)) (hl:qs.length=min xs.length ys.length) (h:∀ (j:Nat) q,qs[j]?=some q->xs[j]?=some q.1/\ys[j]?=some q.2):All2 (fun t ab=>H' t=some (.tup [.str ab.1,.str ab.2])) ts qs:=by
 refine ⟨by rw [Z.len,ya,ya,hl],fun j t ab g c=>?_⟩;obtain ⟨d,f⟩:=h j ab c;obtain ⟨_,u,v,a,b,e⟩:=Z.tp j t g;rw [yd,d] at a;rw [yd,f] at b;cases a;cases b;exact e
theorem atI_back {xs:List α} {v:α} (a:1<=j) (h1:j<=xs.length) (h:xs[xs.length-j]?=some v):atI xs (-(j:Int))=some v:=by
 have e:ixN xs.length (-(j:Int))=some (xs.length-j):=by
  unfold ixN;rw [yy (by omega),yF (by omega)]
  congr 1
  omega
 unfold atI;rw [e];exact h
theorem ok_gt (F:Fun K "goes_by_turns" "goes_by_turns" qO f fd) (T:Txt K mg cc cw) (KY:MethOk P w K mg base CX0 7 cw "has_tie" ["self","thing"] (spHt cw)):FnOk P w K mg base CX0 8 f fd ["web","partners","names"] (spGt cw):=by
 refine F.ok KH fun _ _ _ _ H vs Q E hr h=>?_
 ·obtain ⟨x,l,d,a,ss,ns,us,tps,qs,rs,rfl,R,hd,q⟩:=h;have hu:=jV hr;obtain ⟨wx,dd,ol,nn,X,_⟩:=id R.web;have ha:=R.row;have M:=R.rok;have hl:=M.few;refine ⟨_,(qc (qk (i:=3) KH.nd rfl (yK rfl) (qcS (K:=K) rfl rfl rfl rfl T.b_list T.b_zip (qa (pv 2) (qa (jA (qd3 (K:=K) rfl) (pv 2) (jH qh) j4) qd))))
 (qc (qN (q8 (qY (qu (qeF (K:=K) rfl rfl) rfl T.b_all boot_all (qa (ji (sc:=qg qO) (XN:=["web","partners","names","steps","paired"]) ["step","web"] 1 [0] rfl rfl rfl (by decide +kernel) rfl (by decide +kernel)
  (qU (K:=K) rfl (pv 3)) (fun _ _ _ _=>(qq (i:=0) (show (["step","web"]:List Str).Nodup by decide +kernel) rfl (yK rfl))) jc
  (fun _ _ _ _=>zf)
  (fun _ _ _ _=>(qD KY (hmR hr) (pv 1) (qa (pv 0) qd)))) qd)))) (qe (qj jF)) qv)
 (qc (qcP (sc:=qg qO) (XN:=["web","partners","names","steps","paired"]) ["step","partners"] 1 [1] rfl rfl rfl (by decide +kernel) rfl (by decide +kernel) (i:=4) KH.nd rfl rfl
  (qU (K:=K) rfl (pv 3)) (fun _ _ _ _=>(qq (i:=0) (show (["step","partners"]:List Str).Nodup by decide +kernel) rfl (yK rfl))) jc
  (fun _ _ _ _=>zf)
  (fun _ _ _ _=>(jz (zM (K:=K) rfl hu) (qaq (qfQ hu) (pv 1) (qr (qt (K:=K) rfl hu) (pv 0) qh (fun _ _=>rfl)) ⟨rfl,rfl,rfl,rfl⟩) (qr (qt (K:=K) rfl hu) (pv 0) qh (fun _ _=>rfl)) (qC _))))
 (qe (qj (qu (qeF (K:=K) rfl rfl) rfl T.b_all boot_all (qa (ji (sc:=qg qO) (XN:=["web","partners","names","steps","paired"]) ["one","other"] 2 [] rfl rfl rfl (by decide +kernel) rfl (by decide +kernel)
  (pi_zip (K:=K) rfl rfl T.b_zip (qa (pv 4) (qa (jA (qd3 (K:=K) rfl) (pv 4) (jH qh) j4) qd))) (fun _ _ _ _=>(qcb (n:=2) rfl (jx (qq (i:=0) (show (["one","other"]:List Str).Nodup by decide +kernel) rfl (yK rfl)) (jx (qq (i:=1) (show (["one","other"]:List Str).Nodup by decide +kernel) rfl (yK rfl)) qa9)))) gk_two
  (fun _ _ _ _=>zf)
  (fun _ _ _ _=>(jz (qbw (K:=K) rfl hu) (pv 0) (pv 1) (qC _)))) qd))))))),?_⟩
  ext;refine vLZ ?_;ext;refine .inl ⟨a,_,rfl,SqL.of ha,fun c hc=>?_⟩;rw [qa0,<- kM];have s1:=qF (Sr H) (o:=.lst (rs.tail.map V.str)) hc;have aa:upd H c (.lst (rs.tail.map V.str)) c=some (.lst (rs.tail.map V.str)):=qb;generalize upd H c (.lst (rs.tail.map V.str))=H1 at s1 aa;ext;refine ⟨a,c,_,_,rfl,SqL.of (s1 _ _ ha),SqL.of aa,by rw [ya];exact hl,fun l ts H2 Z=>?_⟩;have L:=s1.trans Z.sm;have ak:(stp rs).length<=1000:=by rw [qal];omega
  have W:=qel (qs:=stp rs) Z (by rw [qal,xU];omega) fun j q e=>by
   obtain ⟨z1,z2⟩:=stp_at.mp e;exact ⟨z1,by rw [Xa];exact z2⟩
  have tl:=W.len;have C:=Z.ls
  have ai:∀ {i:Nat} {y:V},(ts.map V.ref)[i]?=some y->∃ t ab,y=.ref t/\(stp rs)[i]?=some ab/\H2 t=some (.tup [.str ab.1,.str ab.2]):=fun {i y} O=>by
   rw [yd] at O;obtain ⟨t,ht,rfl⟩:=yn.mp O;obtain ⟨ab,p⟩:∃ ab,(stp rs)[i]?=some ab:=⟨_,yb (by rw [<- tl];exact (yc.mp ht).1)⟩;exact ⟨t,ab,rfl,p,W.at_ i t ab ht p⟩
  ext;refine .inl ⟨⟨_,.of C⟩,qZ (xs:=ts.map V.ref) (fun i ys G=>L2.Same H2 G/\ys=(((stp rs).take i).map fun _=>true).map V.bl) ⟨L2.Same.refl H2,rfl⟩ (fun i ys G _ m=>.of (m.1 _ _ C)) (fun i y ys G O m=>?_) fun ys G m=>?_⟩
  ·obtain ⟨S,rfl⟩:=m;obtain ⟨t,ab,rfl,p,N⟩:=ai O;obtain ⟨e1,U⟩:=stp_at.mp p;ext;refine qag ?_;ext;refine ⟨x,wx,_,rfl,(L.trans S) _ _ X,j8 (by decide +kernel),?_⟩;ext;refine ⟨x,t,ss,ns,tps,ab,rfl,R.web.same (L.trans S),R.adj,S _ _ N,(M.tie i ab p).1,M.inn _ (ye e1),M.inn _ (ye U),fun z=>?_,fun G2 am=>?_⟩
   ·rw [<- z] at U;exact absurd (qy M.nd e1 U) (by omega)
   ·refine ⟨by rw [ya,ya,yP];exact qi (by omega),S.trans am,?_⟩;rw [yM,p,yE,yE];rfl
  ·obtain ⟨S,rfl⟩:=m;rw [show (ts.map V.ref).length=(stp rs).length by rw [ya,tl],yS];refine ⟨by rw [ya,ya];exact Yc (qi (by omega)),fun g hg=>?_⟩;have s3:=qF S (o:=.lst (((stp rs).map fun _=>true).map V.bl)) hg;have eg:upd G g (.lst (((stp rs).map fun _=>true).map V.bl)) g=some (.lst (((stp rs).map fun _=>true).map V.bl)):=qb;generalize upd G g (.lst (((stp rs).map fun _=>true).map V.bl))=G3 at s3 eg;ext;refine ⟨g,_,rfl,SqL.of eg,_,rfl,?_⟩;rw [qfV (fun b X=>by obtain ⟨_,_,rfl⟩:=Yb.mp X;rfl)];have ag:=L.trans s3;refine yq ?_;have r:=s3 _ _ C;have ad:=ag _ _ hd;ext;refine .inl ⟨⟨_,.of r⟩,qZ (xs:=ts.map V.ref) (fun i ys G=>G=G3/\ys=(((stp rs).take i).map (prB qs)).map V.bl) ⟨rfl,rfl⟩ (fun i ys G _ m=>by rw [m.1];exact .of r) (fun i y ys G O m=>?_) fun ys G m=>?_⟩
   ·obtain ⟨rfl,rfl⟩:=m;obtain ⟨t,ab,rfl,p,N⟩:=ai O;have N:=s3 _ _ N;ext;refine qag ?_;ext;refine qcy ?_;ext;refine ⟨d,rfl,.inl ⟨_,.inl ad⟩,?_⟩;ext;refine .inl (qbj N (v:=.str ab.1) (qo (j:=0) rfl) ?_);refine ⟨_,DGet.k (k:=Sum.inr ab.1) ad,?_⟩;rw [jL];ext;refine .inl (qbj N (v:=.str ab.2) (qo (j:=1) rfl) ?_);refine qfo ?_;refine ⟨by rw [ya,ya,yP];exact qi (by omega),rfl,?_⟩;rw [yM,p,yE,yE];rfl
   ·obtain ⟨rfl,rfl⟩:=m;rw [show (ts.map V.ref).length=(stp rs).length by rw [ya,tl],yS];refine ⟨by rw [ya,ya];exact Yc (qi (by omega)),fun b aj=>?_⟩;obtain ⟨bs,B⟩:∃ bs,bs=(stp rs).map (prB qs):=⟨_,rfl⟩;rw [<- B];have an:bs.length<=1000:=by rw [B,ya];exact ak
    have Y:∀ (i:Nat) b,bs[i]?=some b->b=decide (i % 2=1):=fun i b e=>by
     rw [B,yd] at e;obtain ⟨ab,p,rfl⟩:=yn.mp e;exact (M.tie i ab p).2
    have s4:=qF ag (o:=.lst (bs.map V.bl)) aj;have eb:upd G b (.lst (bs.map V.bl)) b=some (.lst (bs.map V.bl)):=qb;generalize upd G b (.lst (bs.map V.bl))=G4 at s4 eb;ext;refine vZip ?_;ext;refine .inl ⟨b,_,rfl,SqL.of eb,fun c2 ac=>?_⟩;rw [qa0,<- kM];have s5:=qF s4 (o:=.lst (bs.tail.map V.bl)) ac;have s:=qF (Sr G4) (o:=.lst (bs.tail.map V.bl)) ac _ _ eb;have A:upd G4 c2 (.lst (bs.tail.map V.bl)) c2=some (.lst (bs.tail.map V.bl)):=qb;generalize upd G4 c2 (.lst (bs.tail.map V.bl))=G5 at s5 s A;ext;refine ⟨b,c2,_,_,rfl,SqL.of s,SqL.of A,comp_zip (xs:=bs.map V.bl) (ys:=bs.tail.map V.bl) (by simp) (fun i zs J=>L2.Same G5 J/\zs=(List.replicate i true).map V.bl) ⟨L2.Same.refl G5,rfl⟩ (fun i zs J _ m=>⟨SqL.of (m.1 _ _ s),SqL.of (m.1 _ _ A)⟩) (fun i u v t zs J D I ht m=>?_) fun zs J m=>?_⟩
    ·obtain ⟨sJ,rfl⟩:=m;rw [yd] at D I;obtain ⟨u,ae,rfl⟩:=yn.mp D;obtain ⟨v,af,rfl⟩:=yn.mp I;clear D I;have ao:=(yc.mp ae).1;rw [Xa] at af;have e1:=Y _ _ ae;have U:=Y _ _ af;have ah:=qF sJ (o:=.tup [.bl u,.bl v]) ht;refine ⟨t,_,rfl,.of qb,rfl,_,_,rfl,_,_,rfl,rfl,?_⟩;generalize upd J t (.tup [.bl u,.bl v])=J3 at ah;ext;refine qag ?_;ext;refine .inl ⟨rfl,rfl,?_⟩;refine ⟨by rw [ya,YN];exact qi (by omega),ah,?_⟩
     have al:v=!u:=by
      rw [e1,U];rcases Xr i with z | z
      ·rw [z,yB (by omega)];rfl
      ·rw [z,yl (by omega)];rfl
     rw [List.replicate_succ',yE,al];cases u<;>rfl
    ·obtain ⟨sJ,rfl⟩:=m;rw [show (bs.tail.map V.bl).length=bs.length-1 by rw [ya,xU]];refine ⟨by rw [ya,YN];exact Yc (qi (by omega)),fun e he=>?_⟩;have s6:=qF (s5.trans sJ) (o:=.lst ((List.replicate (bs.length-1) true).map V.bl)) he;have ee:upd J e (.lst ((List.replicate (bs.length-1) true).map V.bl)) e=some (.lst ((List.replicate (bs.length-1) true).map V.bl)):=qb;generalize upd J e (.lst ((List.replicate (bs.length-1) true).map V.bl))=J6 at s6 ee;ext;refine ⟨e,_,rfl,SqL.of ee,?_⟩;rw [qfV (fun b X=>(List.mem_replicate.mp X).2)];exact q J6 s6
theorem ok_ir (F:Fun K "is_row" "is_row" qaZ f fd) (T:Txt K mg cc cw) (m:DefOk P w K mg base CX0 9 "partners_in" ["web","pairs"] (spPn cw)) (s:DefOk P w K mg base CX0 4 "are_unlike_places" ["web","thing"] (spUl cw)) (r:DefOk P w K mg base CX0 8 "goes_by_turns" ["web","partners","names"] (spGt cw)):FnOk P w K mg base CX0 10 f fd ["web","pairs","thing"] (spIr cw):=by
 refine F.ok uM fun _ _ _ _ H vs Q E c h=>?_
 ·obtain ⟨x,l,a,ss,ns,us,tps,qs,rs,rfl,R,q⟩:=h;have u:=jV c;have G:=R.rok;have t:=G.two;refine ⟨_,(qc (qk (i:=3) uM.nd rfl (yK rfl) (qm m (hmR c) qz (qa (pv 0) (qa (pv 1) qd))))
 (qc (qN (PW.pt (qbQ (q8 (qY (qm s (hmR c) qz (qa (pv 0) (qa (pv 2) qd))))) (qaL (qp qdN (qu (qai (K:=K) rfl) rfl T.b_len xJ (qa (pv 2) qd)) qh (qC _))))) (qe (qj jF)) qv)
 (qe (qj (qm r (hmR c) qz (qa (pv 0) (qa (pv 3) (qa (pv 2) qd)))))))),?_⟩
  ext;refine ⟨x,l,ss,ns,us,tps,qs,rfl,R.web,R.adj,R.prs,R.pgo,fun d H1 e o n=>?_⟩;ext;refine ⟨x,a,ss,ns,rs,rfl,R.web.same e,e _ _ R.row,G.nd,G.few,G.inn,fun H2 g=>?_⟩;have b:=e.trans g;ext;refine yq ?_;ext;refine .inl ⟨_,.inl (SqL.of (b _ _ R.row)),?_⟩;rw [ya];ext;refine qQ (fun h=>absurd (yk h) (by omega)) fun _=>?_;ext;exact ⟨x,l,d,a,ss,ns,us,tps,qs,rs,rfl,R.same b,g _ _ n,fun j p=>q j (b.trans p)⟩
theorem qe4 {t:Addr} {n:Str} {Q:VK} (e:H t=some (.tup [.non,.str n])) (q:Q (.bl true) H):qex K false .non (.ref t) H Q:=
 .inl ⟨t,_,rfl,.inr (SqT.of e),rfl,rfl,q⟩
theorem ok_ct (F:Fun K "can_turn" "can_turn" qac f fd) (T:Txt K mg cc cw) (I:DefOk P w K mg base CX0 9 "partners_in" ["web","pairs"] (spPn cw)) (J:DefOk P w K mg base CX0 10 "is_row" ["web","pairs","thing"] (spIr cw)):FnOk P w K mg base CX0 11 f fd ["web","pairs","thing"] (spIr cw):=by
 refine F.ok KP fun _ _ _ _ H vs Q E u h=>?_
 ·obtain ⟨x,l,a,ss,ns,us,tps,qs,rs,rfl,R,q⟩:=h;have b:=jV u;have G:=R.rok;have W:=G.two;refine ⟨_,(qc (qN (q8 (qY (qm J (hmR u) qz (qa (pv 0) (qa (pv 1) (qa (pv 2) qd)))))) (qe (qj jF)) qv)
 (qc (qk (i:=3) KP.nd rfl (yK rfl) (qm I (hmR u) qz (qa (pv 0) (qa (pv 1) qd))))
 (qc (qk (i:=4) KP.nd rfl (yK rfl) (qaq (qfQ b) (pv 3) (qr (qt (K:=K) rfl b) (pv 2) qh (fun _ _=>rfl)) ⟨rfl,rfl,rfl,rfl⟩))
 (qc (qk (i:=5) KP.nd rfl (yK rfl) (qaq (qfQ b) (pv 3) (qr (qt (K:=K) rfl b) (pv 2) (qbb qaN qh) (fun _ _=>rfl)) ⟨rfl,rfl,rfl,rfl⟩))
 (qe (qj (qbC (jz (zw (K:=K) rfl b) (pv 4) (jR (qa zE (qa (qr (qt (K:=K) rfl b) (pv 2) qh (fun _ _=>rfl)) qd))) (by with_unfolding_all rfl)) (qbB (jz (zw (K:=K) rfl b) (pv 5) (jR (qa zE (qa (qr (qt (K:=K) rfl b) (pv 2) (qbb qaN qh) (fun _ _=>rfl)) qd))) (by with_unfolding_all rfl)))))))))),?_⟩
  ext;refine ⟨x,l,a,ss,ns,us,tps,qs,rs,rfl,R,fun H1 z=>?_⟩;refine ⟨_,rfl,qQ (fun h=>by cases h) fun _=>?_⟩;ext;refine ⟨x,l,ss,ns,us,tps,qs,rfl,R.web.same z,R.adj,R.prs.same z,R.pgo,fun d H2 S M p=>?_⟩;obtain ⟨s,B⟩:∃ s,rs[0]?=some s:=⟨_,yb (by omega)⟩;obtain ⟨g,L⟩:∃ g,rs[1]?=some g:=⟨_,yb (by omega)⟩;obtain ⟨r,D⟩:∃ r,rs[rs.length-1]?=some r:=⟨_,yb (by omega)⟩;obtain ⟨m1,O⟩:∃ m1,rs[rs.length-2]?=some m1:=⟨_,yb (by omega)⟩;have m:=z.trans S;have C:=R.row;have c:=m _ _ C;have at_:∀ {j:Nat} {n:Str},rs[j]?=some n->(rs.map V.str)[j]?=some (.str n):=fun e=>by rw [yd,e];rfl
  have back:∀ {j:Nat} {n:Str},1<=j->j<=rs.length->rs[rs.length-j]?=some n->atI (rs.map V.str) (-(j:Int))=some (.str n):=fun l1 l2 e=>atI_back l1 (by rw [ya];exact l2) (by rw [ya];exact at_ e);ext;refine qcy ?_;ext;refine ⟨d,rfl,.inl ⟨_,.inl p⟩,?_⟩;ext;refine .inl (za c (v:=.str s) (qo (j:=0) (at_ B)) ?_);refine ⟨_,DGet.k (k:=Sum.inr s) p,?_⟩;rw [jL,G.hd _ B];ext;refine qcy ?_;ext;refine ⟨d,rfl,.inl ⟨_,.inl p⟩,?_⟩;ext;refine ⟨1,rfl,?_⟩;refine .inl (za c (v:=.str r) (back (j:=1) (by decide) (by omega) D) ?_);refine ⟨_,DGet.k (k:=Sum.inr r) p,?_⟩;rw [jL,G.tl _ D];ext;refine .inl (za c (v:=.str g) (qo (j:=1) (at_ L)) ?_);ext;refine ⟨by show 2<=sizeLine;decide,fun t N=>qe4 qb ?_⟩;have A:=qF m (o:=.tup [.non,.str g]) N;generalize upd H2 t (.tup [.non,.str g])=U at A;refine ⟨_,rfl,qag ?_⟩;ext;refine ⟨2,rfl,?_⟩;refine .inl (za (A _ _ C) (v:=.str m1) (back (j:=2) (by decide) (by omega) O) ?_);ext;exact ⟨by show 2<=sizeLine;decide,fun X y=>qe4 qb (q _ (qF A y))⟩
theorem um:FnScope ["web","pairs","row","partners","steps"] ["web","pairs","row"] (qg qaA):=fS
noncomputable def qem (rs:List Str):List (Str×Str):=stp rs++(stp rs).map fun q=>(q.2,q.1)
noncomputable def flT (a qs:List (Str×Str)) (rs:List Str):List (Str×Str):=a.filter fun q=>decide (pt qs q.1=some q.2) != decide (q∈qem rs)
inductive spTu (cw:Addr) (vs:List V) (H:Hp) (Q:VK) (E:XK):Prop|mk (x l a:Addr) (ss:List Str) (ns:List Nat) (us:List Addr) (tps qs:List (Str×Str)) (rs:List Str) (_:vs=[.ref x,.ref l,.ref a]) (_:Rw cw H x l a ss ns us tps qs rs) (_:∀ (l:Addr) (ls:List Addr) (H':Hp),L2.Same H H'->H l=none->H' l=some (.lst (ls.map V.ref))->ls.length<=196->All2 (PrAt H H' l) ls (flT (qR ss ns ss.length) qs rs)->Q (.ref l) H')
theorem All2.app9 {R:α->β->Prop} {l1 l2:List α} {m1 f:List β} (a:All2 R l1 m1) (b:All2 R l2 f):All2 R (l1++l2) (m1++f):=by
 refine ⟨by rw [yt,yt,a.len,b.len],fun k x y c d=>?_⟩;by_cases e:k<l1.length
 ·rw [yZ e] at c;rw [yZ (by rw [<- a.len];exact e)] at d;exact a.at_ k x y c d
 ·rw [yJ (by omega)] at c;rw [yJ (by rw [<- a.len];omega),<- a.len] at d;exact b.at_ _ x y c d
theorem cat_W {a b:Addr} {xs:List V} {Q:VK} (c:G a=some (.lst xs)) (d:G b=some (.lst ys)) (hl:xs.length+ys.length<=2000) (q:∀ p,G p=none->Q (.ref p) (upd G p (.lst (xs++ys)))):qdD K (.ref a) (.ref b) G Q:=.inl ⟨a,b,_,_,rfl,rfl,c,d,yi hl (by decide),q⟩
theorem ok_tu (F:Fun K "turned" "turned" qaA f fd) (T:Txt K mg cc cw) (Kn:DefOk P w K mg base CX0 9 "partners_in" ["web","pairs"] (spPn cw)) (ue:MethOk P w K mg base CX0 7 cw "ties" ["self"] (spTs cw)) (u7:DefOk P w K mg base CX0 11 "can_turn" ["web","pairs","thing"] (spIr cw)):FnOk P w K mg base CX0 12 f fd ["web","pairs","row"] (spTu cw):=by
 refine F.ok um fun _ _ _ _ H vs Q E hr h=>?_
 ·obtain ⟨x,pl,a,ss,ns,ps,tps,qs,rs,rfl,R,q⟩:=h;have u:=jV hr;obtain ⟨wx,dd,ol,nn,hb,_⟩:=id R.web;have ha:=R.row;have ah:=R.rok.few;have h2:=R.rok.two;refine ⟨_,(qc (qN (q8 (qY (qm u7 (hmR hr) qz (qa (pv 0) (qa (pv 1) (qa (pv 2) qd)))))) (qe jw) qv)
 (qc (qk (i:=3) um.nd rfl (XT rfl) (qm Kn (hmR hr) qz (qa (pv 0) (qa (pv 1) qd))))
 (qc (qk (i:=4) um.nd rfl (XT rfl) (qx (jU (K:=K) rfl) (qcS (K:=K) rfl rfl rfl rfl T.b_list T.b_zip (qa (pv 2) (qa (jA (qd3 (K:=K) rfl) (pv 2) (jH qh) j4) qd))) (qcS (K:=K) rfl rfl rfl rfl T.b_list T.b_zip (qa (jA (qd3 (K:=K) rfl) (pv 2) (jH qh) j4) (qa (pv 2) qd)))))
 (qe (qj (ji (sc:=qg qaA) (XN:=["web","pairs","row","partners","steps"]) ["tie","steps","partners"] 1 [4,3] rfl rfl rfl (by decide +kernel) rfl (by decide +kernel)
  (qU (K:=K) rfl (jj ue (hmR hr) (pv 0))) (fun _ _ _ _=>(qq (i:=0) (show (["tie","steps","partners"]:List Str).Nodup by decide +kernel) rfl (yK rfl))) jc
  (fun _ _ _ _=>(jr (qp (qbw (K:=K) rfl u) (jz (zM (K:=K) rfl u) (qaq (qfQ u) (pv 2) (qr (qt (K:=K) rfl u) (pv 0) qh (fun _ _=>rfl)) ⟨rfl,rfl,rfl,rfl⟩) (qr (qt (K:=K) rfl u) (pv 0) qh (fun _ _=>rfl)) (qC _)) (jz (zw (K:=K) rfl u) (pv 0) (pv 1) (by with_unfolding_all rfl)) (qC _))))
  (fun _ _ _ _=>(pv 0)))))))),?_⟩
  ext;refine ⟨x,pl,a,ss,ns,ps,tps,qs,rs,rfl,R,fun H1 s1=>?_⟩;refine ⟨_,rfl,qQ (fun h=>by cases h) fun _=>?_⟩;ext;refine ⟨x,pl,ss,ns,ps,tps,qs,rfl,R.web.same s1,R.adj,R.prs.same s1,R.pgo,fun d H2 s2 ai hd=>?_⟩;have N:=s1.trans s2;have n:=N _ _ ha;ext;refine vLZ ?_;ext;refine .inl ⟨a,_,rfl,SqL.of n,fun Z ac=>?_⟩;rw [qa0,<- kM];have t1:=qF (Sr H2) (o:=.lst (rs.tail.map V.str)) ac;have A:upd H2 Z (.lst (rs.tail.map V.str)) Z=some (.lst (rs.tail.map V.str)):=qb;generalize upd H2 Z (.lst (rs.tail.map V.str))=G1 at t1 A;ext;refine ⟨a,Z,_,_,rfl,SqL.of (t1 _ _ n),SqL.of A,by rw [ya];exact ah,fun l1 b G2 Z1=>?_⟩;have t2:=t1.trans Z1.sm;ext;refine vLZ ?_;ext;refine .inl ⟨a,_,rfl,SqL.of (t2 _ _ n),fun c2 ad=>?_⟩;rw [qa0,<- kM];have t3:=qF (Sr G2) (o:=.lst (rs.tail.map V.str)) ad;have B:upd G2 c2 (.lst (rs.tail.map V.str)) c2=some (.lst (rs.tail.map V.str)):=qb;generalize upd G2 c2 (.lst (rs.tail.map V.str))=G3 at t3 B;have S:=t2.trans t3;ext;refine ⟨c2,a,_,_,rfl,SqL.of B,SqL.of (S _ _ n),by rw [ya,xU];omega,fun l2 c G4 Y=>?_⟩;have t4:=S.trans Y.sm;have U:=t3.trans Y.sm
  have A1:=qel (qs:=stp rs) Z1 (by rw [qal,xU];omega) fun j q e=>by
   obtain ⟨X,z2⟩:=stp_at.mp e;exact ⟨X,by rw [Xa];exact z2⟩
  have A2:=qel (qs:=(stp rs).map fun q=>(q.2,q.1)) Y (by rw [ya,qal,xU];omega) fun j q e=>by
   rw [yd] at e;obtain ⟨q',e',rfl⟩:=yn.mp e;obtain ⟨X,z2⟩:=stp_at.mp e';exact ⟨by rw [Xa];exact z2,X⟩
  have ak:b.length<=1000:=by rw [A1.len,qal];omega
  have al:c.length<=1000:=by rw [A2.len,ya,qal];omega
  refine cat_W (U _ _ Z1.ls) Y.ls (by rw [ya,ya,A1.len,A2.len,ya,qal];omega) fun st ag=>?_;have t5:=qF (Sr G4) (o:=.lst (b.map V.ref++c.map V.ref)) ag;have C:upd G4 st (.lst (b.map V.ref++c.map V.ref)) st=some (.lst (b.map V.ref++c.map V.ref)):=qb;generalize upd G4 st (.lst (b.map V.ref++c.map V.ref))=G5 at t5 C;have W:=t4.trans t5;have aa:PL G5 st (b++c) (qem rs):=⟨by rw [yE];exact C,All2.app9 (A1.mono fun _ _ z=>(U.trans t5) _ _ z) (A2.mono fun _ _ z=>t5 _ _ z)⟩;have p:=N.trans W;have ae:=W _ _ hd;ext;refine ⟨x,wx,_,rfl,p _ _ hb,j8 (by decide +kernel),?_⟩;ext;refine ⟨x,ss,ns,rfl,R.web.same p,fun l ts G6 s6 aj hl af r=>?_⟩;have O:=p.trans s6;have L:=s6 _ _ ae;have D:=aa.same s6;refine .inl ⟨⟨_,.of hl⟩,qZ (xs:=ts.map V.ref) (fun i ys G=>G=G6/\∃ us:List Addr,ys=us.map V.ref/\us.length<=i/\All2 (fun t ab=>G5 t=none/\G6 t=some (.tup [.str ab.1,.str ab.2])) us (flT ((qR ss ns ss.length).take i) qs rs)) ⟨rfl,[],rfl,yh _,.nil⟩ (fun i ys G _ m=>by rw [m.1];exact .of hl) (fun i y ys G hy m=>?_) fun ys G m=>?_⟩
  ·obtain ⟨rfl,us,rfl,M,I⟩:=m;rw [yd] at hy;obtain ⟨t,ht,rfl⟩:=yn.mp hy;have hi:i<ts.length:=(yc.mp ht).1;obtain ⟨ab,J⟩:∃ ab,(qR ss ns ss.length)[i]?=some ab:=⟨_,yb (by rw [<- r.len];exact hi)⟩;obtain ⟨X,z2,z3⟩:=r.at_ i t ab ht J
   have s:flT ((qR ss ns ss.length).take (i+1)) qs rs=flT ((qR ss ns ss.length).take i) qs rs++(if (decide (pt qs ab.1=some ab.2) != decide (ab∈qem rs))=true then [ab] else []):=by
    unfold flT;rw [yM,J,Yp];show _++[ab].filter _=_;rw [yT,YK]
   ext;refine qcy ?_;ext;refine ⟨d,rfl,.inl ⟨_,.inl L⟩,?_⟩;ext;refine .inl (qbj z3 (v:=.str ab.1) (qo (j:=0) rfl) ?_);refine ⟨_,DGet.k (k:=Sum.inr ab.1) L,?_⟩;rw [jL];ext;refine .inl (qbj z3 (v:=.str ab.2) (qo (j:=1) rfl) ?_);refine qfo ?_;ext;refine pl_in D z3 ?_;refine .inl ⟨rfl,rfl,?_⟩;have eb:eqV (.bl (decide (pt qs ab.1=some ab.2))) (.bl (decide ((ab.1,ab.2)∈qem rs)))=(decide (pt qs ab.1=some ab.2)==decide (ab∈qem rs)):=rfl;rw [yF rfl,eb,s];refine ⟨_,rfl,?_⟩;show if (decide (pt qs ab.1=some ab.2) != decide (ab∈qem rs))=true then _ else _
   cases am:(decide (pt qs ab.1=some ab.2) != decide (ab∈qem rs)) with
   | true =>
    refine qag ?_;rw [yF rfl];ext;exact ⟨by rw [ya];exact qi (by omega),rfl,us++[t],by rw [yE];rfl,by rw [yt];simp;omega,I.snoc ⟨X,z3⟩⟩
   | false =>
    refine yq ?_;rw [yy (by decide),Yd];exact ⟨rfl,us,rfl,by omega,I⟩
  ·obtain ⟨rfl,us,rfl,M,I⟩:=m;have e:(ts.map V.ref).length=(qR ss ns ss.length).length:=by rw [ya,r.len]
   rw [e,yS] at I;rw [ya] at M;refine ⟨by rw [ya];exact Yc (qi (by omega)),fun g hg=>?_⟩;have s7:=qF O (o:=.lst (us.map V.ref)) hg;exact q g us _ s7 (O.free hg) qb (by omega) (I.mono fun t ab z=>⟨p.free z.1,(fun e=>by rw [e,hg] at z;cases z.2),by rw [qf (fun e=>by rw [e,hg] at z;cases z.2)];exact z.2⟩)
def adjR (rs:List Str) (a b:Str):Prop:=∃ j:Nat,(rs[j]?=some a/\rs[j+1]?=some b)\/(rs[j]?=some b/\rs[j+1]?=some a)
theorem adjR.symm (h:adjR rs a b):adjR rs b a:=h.elim fun j z=>⟨j,z.symm⟩
theorem adjR.mem (h:adjR rs a b):a∈rs/\b∈rs:=h.elim fun j z=>z.elim (fun y=>⟨ye y.1,ye y.2⟩) fun y=>⟨ye y.2,ye y.1⟩
structure TurnR (f:Str->Option Str) (rs:List Str):Prop where
 nd:rs.Nodup
 two:2<=rs.length
 sym:∀ a b,f a=some b->f b=some a
 alt:∀ (j:Nat) r s t,rs[j]?=some r->rs[j+1]?=some s->rs[j+2]?=some t->(f s=some r↔¬ f s=some t)
 fst:∀ s t,rs[0]?=some s->rs[1]?=some t->f s=none\/f s=some t
 lst:∀ s t,rs[rs.length-1]?=some s->rs[rs.length-2]?=some t->f s=none\/f s=some t
theorem TurnR.near {f:Str->Option Str} (h:TurnR f rs) (n:a∈rs) (c:f a=some b):adjR rs a b:=by
 obtain ⟨i,d⟩:=yf n;have o:i<rs.length:=(yc.mp d).1;have p:=h.two;by_cases m:i=0
 ·subst m;obtain ⟨t,e⟩:∃ t,rs[1]?=some t:=⟨_,yb (by omega)⟩;rcases h.fst a t d e with z | z
  ·rw [z] at c;cases c
  ·rw [c] at z;cases z;exact ⟨0,.inl ⟨d,e⟩⟩
 ·by_cases hl:i=rs.length-1
  ·obtain ⟨t,e⟩:∃ t,rs[rs.length-2]?=some t:=⟨_,yb (by omega)⟩;rcases h.lst a t (by rw [<- hl];exact d) e with z | z
   ·rw [z] at c;cases c
   ·rw [c] at z;cases z;exact ⟨rs.length-2,.inr ⟨e,by rw [show rs.length-2+1=i by omega];exact d⟩⟩
  ·obtain ⟨r,l⟩:∃ r,rs[i-1]?=some r:=⟨_,yb (by omega)⟩;obtain ⟨t,e⟩:∃ t,rs[i+1]?=some t:=⟨_,yb (by omega)⟩;have g:i-1+1=i:=by omega
   have j:i-1+2=i+1:=by omega
   have:=h.alt (i-1) r a t l (by rw [g];exact d) (by rw [j];exact e);by_cases z:f a=some t
   ·rw [c] at z;cases z;exact ⟨i,.inl ⟨d,e⟩⟩
   ·have z:=this.mpr z;rw [c] at z;cases z;exact ⟨i-1,.inr ⟨l,by rw [g];exact d⟩⟩
def flipR (f:Str->Option Str) (rs:List Str) (a b:Str):Prop:=(a∉rs/\f a=some b)\/(adjR rs a b/\f a≠some b)
theorem TurnR.xor {f:Str->Option Str} (h:TurnR f rs):flipR f rs a b↔¬ (f a=some b↔adjR rs a b):=by
 unfold flipR;constructor
 ·rintro (⟨h1,c⟩ | ⟨h1,c⟩) e
  ·exact h1 (e.mp c).mem.1
  ·exact c (e.mpr h1)
 ·intro e;by_cases h1:f a=some b
  ·refine .inl ⟨fun d=>e ⟨fun _=>h.near d h1,fun _=>h1⟩,h1⟩
  ·by_cases c:adjR rs a b
   ·exact .inr ⟨c,h1⟩
   ·exact absurd ⟨fun z=>absurd z h1,fun z=>absurd z c⟩ e
theorem flipR.symm {f:Str->Option Str} (h:TurnR f rs) (e:flipR f rs a b):flipR f rs b a:=by
 rcases e with ⟨h1,c⟩ | ⟨h1,c⟩
 ·refine .inl ⟨fun d=>?_,h.sym _ _ c⟩;exact h1 (h.near d (h.sym _ _ c)).mem.2
 ·exact .inr ⟨h1.symm,fun z=>c (h.sym _ _ z)⟩
theorem adjR.at_ (nd:rs.Nodup) (d:rs[i]?=some a) (h:adjR rs a b):rs[i+1]?=some b\/(1<=i/\rs[i-1]?=some b):=by
 obtain ⟨j,⟨h1,c⟩ | ⟨h1,c⟩⟩:=h
 ·have:=qy nd d h1;subst this;exact .inl c
 ·have:=qy nd d c;subst this;exact .inr ⟨by omega,by simpa using h1⟩
theorem flipR.one {f:Str->Option Str} (h:TurnR f rs) (p:flipR f rs a b) (o:flipR f rs a c):b=c:=by
 rcases p with ⟨h1,j⟩ | ⟨h1,j⟩
 ·rcases o with ⟨e,d⟩ | ⟨e,d⟩
  ·rw [j] at d;exact ym d
  ·exact absurd e.mem.1 h1
 ·rcases o with ⟨e,d⟩ | ⟨e,d⟩
  ·exact absurd h1.mem.1 e
  ·obtain ⟨i,l⟩:=yf h1.mem.1
   have g:∀ {b c:Str},rs[i+1]?=some b->1<=i->rs[i-1]?=some c->f a≠some b->f a≠some c->False:=fun r q hc s t=>by
    have m:i-1+1=i:=by omega
    have n:i-1+2=i+1:=by omega
    exact t ((h.alt (i-1) _ a _ hc (by rw [m];exact l) (by rw [n];exact r)).mpr s)
   rcases h1.at_ h.nd l with z1 | ⟨l1,z1⟩<;>rcases e.at_ h.nd l with z2 | ⟨l2,z2⟩
   ·rw [z1] at z2;exact ym z2
   ·exact (g z1 l2 z2 j d).elim
   ·exact (g z2 l1 z1 d j).elim
   ·rw [z1] at z2;exact ym z2
theorem TurnR.again {f:Str->Option Str} (h:TurnR f rs) (l:∀ a b,g a=some b↔flipR f rs a b):TurnR g rs:=by
 have on:∀ {a b:Str},adjR rs a b->(g a=some b↔¬ f a=some b):=fun i=>by
  rw [l,h.xor];constructor
  ·exact fun e z=>e ⟨fun _=>i,fun _=>z⟩
  ·exact fun e z=>e (z.mpr i)
 have only:∀ {a b:Str},a∈rs->g a=some b->adjR rs a b:=fun p e=>by
  rcases (l _ _).mp e with ⟨h1,_⟩ | ⟨h1,_⟩
  ·exact absurd p h1
  ·exact h1
 refine ⟨h.nd,h.two,fun a b e=>(l _ _).mpr (((l _ _).mp e).symm h),fun j r s t m c d=>?_,fun s t c d=>?_,fun s t c d=>?_⟩
 ·have n:adjR rs s r:=⟨j,.inr ⟨m,c⟩⟩;have o:adjR rs s t:=⟨j+1,.inl ⟨c,d⟩⟩;rw [on n,on o,h.alt j r s t m c d]
 ·cases e:g s with
  | none=>exact .inl rfl
  | some b =>
   have:=(only (ye c) e).at_ h.nd c;rcases this with z | ⟨z,_⟩
   ·rw [d] at z;exact .inr (by rw [<- e,e];exact z.symm ▸ rfl)
   ·omega
 ·cases e:g s with
  | none=>exact .inl rfl
  | some b =>
   have q:=h.two;have:=(only (ye c) e).at_ h.nd c;rcases this with z | ⟨_,z⟩
   ·have:=(yc.mp z).1;omega
   ·rw [show rs.length-1-1=rs.length-2 by omega,d] at z;exact .inr (by rw [<- z])
theorem TurnR.inner {f:Str->Option Str} (h:TurnR f rs) (d:0<i) (h1:i+1<rs.length) (b:rs[i]?=some s):(f s).isSome=true:=by
 obtain ⟨r,a⟩:∃ r,rs[i-1]?=some r:=⟨_,yb (by omega)⟩;obtain ⟨t,c⟩:∃ t,rs[i+1]?=some t:=⟨_,yb h1⟩;have:=h.alt (i-1) r s t a (by rw [show i-1+1=i by omega];exact b) (by rw [show i-1+2=i+1 by omega];exact c)
 cases e:f s with
 | some _=>rfl
 | none =>
  rw [e] at this;have:=this.mpr (fun z=>by cases z);cases this
theorem qdt {f:Str->Option Str} (h:TurnR f rs) (e:∀ a b,g a=some b↔flipR f rs a b) (c:adjR rs a t) (i:f a=none\/f a=some t) (d:g a=none\/g a=some t):(g a).isSome=!(f a).isSome:=by
 rcases i with z | z
 ·rw [(e a t).mpr (.inr ⟨c,by rw [z];exact fun y=>by cases y⟩),z];rfl
 ·rcases d with y | y
  ·rw [y,z];rfl
  ·exact absurd ⟨fun _=>c,fun _=>z⟩ (h.xor.mp ((e a t).mp y))
theorem qen {f:Str->Option Str} (h:TurnR f rs) (j:rs[0]?=some a) (g:rs[rs.length-1]?=some b):(rs.filter fun s=>(f s).isSome).length+2=rs.length+(if (f a).isSome then 1 else 0)+(if (f b).isSome then 1 else 0):=by
 have d:=h.two
 obtain ⟨m,n⟩:∃ m,rs=a::(m++[b]):=by
  match rs,j,g,d with
  | x::r,j,g,d =>
   have u:x=a:=ym j;have q:r≠[]:=fun z=>by rw [z] at d;simp at d
   refine ⟨r.dropLast,?_⟩
   have e:r.getLast q=b:=by
    have hl:0<r.length:=List.length_pos_iff.mpr q;rw [show (x::r).length-1=r.length-1+1 by simp;omega,List.getElem?_cons_succ] at g;rw [List.getLast_eq_getElem];exact (yc.mp g).2
   rw [u,<- e,xn]
 have o:rs.length=m.length+2:=by rw [n];simp
 have c:(m.filter fun s=>(f s).isSome)=m:=kB.mpr fun s t=>by
  obtain ⟨i,p⟩:=yf t;have l:=(yc.mp p).1;refine h.inner (i:=i+1) (by omega) (by omega) ?_;rw [n,List.getElem?_cons_succ,yZ l];exact p
 rw [o,n,yT,Yp,c,yT,YK];cases (f a).isSome<;>cases (f b).isSome<;>simp<;>omega
theorem qcD (f:ss.Nodup) (i:rs.Nodup) (c:∀ s∈rs,s∈ss) (p:Str->Bool):(ss.filter p).length=(rs.filter p).length+(ss.filter fun s=>p s&&!decide (s∈rs)).length:=by
 have e:(rs.filter p).length=(ss.filter fun s=>p s&&decide (s∈rs)).length:=xF
  (qdq (i.filter _) fun s d=>by
   obtain ⟨a,b⟩:=yp.mp d;exact yp.mpr ⟨c s a,by rw [b,yB a];rfl⟩)
  (qdq (f.filter _) fun s d=>by
   obtain ⟨a,b⟩:=yp.mp d;obtain ⟨g,h⟩:=(yX _ _).mp b;exact yp.mpr ⟨yk h,g⟩)
 rw [e];clear e f c
 induction ss with
 | nil=>rfl
 | cons x r ih =>
  rw [yT,yT,yT];cases p x<;>cases decide (x∈rs)<;>simp<;>omega
theorem qbL:∀ {qs:List (Str×Str)},(∀ q∈qs,q.1≠q.2)->qs.Pairwise (fun q r=>q.1≠r.1/\q.1≠r.2/\q.2≠r.1/\q.2≠r.2)->(qw qs).Nodup
 | [],_,_=>List.nodup_nil
 | q::r,h,hp=>by
  obtain ⟨j,l⟩:=List.pairwise_cons.mp hp;have i:=qbL (fun x f=>h x (yz _ f)) l;show (q.1::q.2::qw r).Nodup
  have out:∀ n∈qw r,q.1≠n/\q.2≠n:=fun n g=>by
   obtain ⟨x,f,e⟩:=xT.mp g;obtain ⟨a,b,c,d⟩:=j x f;simp only [yv,yG,Yl] at e;rcases e with rfl | rfl
   ·exact ⟨a,c⟩
   ·exact ⟨b,d⟩
  refine yo.mpr ⟨fun z=>?_,yo.mpr ⟨fun z=>(out _ z).2 rfl,i⟩⟩;rcases yv.mp z with z | z
  ·exact h q yN z
  ·exact (out _ z).1 rfl
theorem stpB_adj:(a,b)∈qem rs↔adjR rs a b:=by
 unfold qem adjR;rw [yD,Yb];constructor
 ·rintro (h | ⟨q,h,e⟩)
  ·obtain ⟨j,d⟩:=yf h;exact ⟨j,.inl (stp_at.mp d)⟩
  ·obtain ⟨j,d⟩:=yf h;cases e;exact ⟨j,.inr (stp_at.mp d)⟩
 ·rintro ⟨j,⟨h1,c⟩ | ⟨h1,c⟩⟩
  ·exact .inl (ye (stp_at.mpr ⟨h1,c⟩))
  ·exact .inr ⟨(b,a),ye (stp_at.mpr ⟨h1,c⟩),rfl⟩
theorem flT_flip {d:List (Str×Str)} (h:TurnR (pt qs) rs):(a,b)∈flT d qs rs↔(a,b)∈d/\flipR (pt qs) rs a b:=by
 unfold flT;rw [yp,h.xor];refine and_congr_right fun _=>?_;show (decide (pt qs a=some b) != decide ((a,b)∈qem rs))=true↔_;by_cases h1:pt qs a=some b<;>by_cases c:(a,b)∈qem rs
 ·rw [yB h1,yB c];exact ⟨(fun z=>by cases z),fun z=>absurd ⟨fun _=>stpB_adj.mp c,fun _=>h1⟩ z⟩
 ·rw [yB h1,yl c];exact ⟨fun _ z=>c (stpB_adj.mpr (z.mp h1)),fun _=>rfl⟩
 ·rw [yl h1,yB c];exact ⟨fun _ z=>h1 (z.mpr (stpB_adj.mp c)),fun _=>rfl⟩
 ·rw [yl h1,yl c];exact ⟨(fun z=>by cases z),fun z=>absurd ⟨fun y=>absurd y h1,fun y=>absurd (stpB_adj.mpr y) c⟩ z⟩
def tA (tps:List (Str×Str)) (a b:Str):Prop:=(a,b)∈tps\/(b,a)∈tps
theorem pt_some:s∈qw qs↔(pt qs s).isSome=true:=by
 cases e:pt qs s with
 | none=>exact ⟨fun z=>absurd z (pt_none.mp e),(fun z=>by cases z)⟩
 | some b=>exact ⟨fun _=>rfl,fun _=>YJ fun z=>by rw [pt_none.mpr z] at e;cases e⟩
structure PFn (ss:List Str) (tps:List (Str×Str)) (f:Str->Option Str):Prop where
 sym:∀ a b,f a=some b->f b=some a
 tie:∀ a b,f a=some b->tA tps a b
noncomputable def qaP (f:Str->Option Str) (ss:List Str):Nat:=(ss.filter fun s=>(f s).isSome).length
section
variable {ss:List Str} {ns:List Nat} {tps qs:List (Str×Str)} {f g:Str->Option Str}
theorem PGo.fn (h:PGo ss tps qs):PFn ss tps (pt qs):=⟨fun a b e=>(qei h.nd).mp e,fun a b e=>by
 rcases qdr e with z | z
 ·exact (h.inn _ z).1
 ·exact (h.inn _ z).1.symm⟩
theorem PGo.cnt (h:PGo ss tps qs) (c:ss.Nodup):2*qs.length=qaP (pt qs) ss:=by
 rw [<- qak];refine xF (qdq h.nd fun s a=>yp.mpr ⟨?_,pt_some.mp a⟩) (qdq (c.filter _) fun s a=>pt_some.mpr (yp.mp a).2);obtain ⟨q,b,a⟩:=xT.mp a;simp only [yv,yG,Yl] at a;rcases a with rfl | rfl
 ·exact (h.inn q b).2.1
 ·exact (h.inn q b).2.2.1
theorem qbM:(snL f ss).length+qaP f ss=ss.length:=by
 unfold snL qaP
 induction ss with
 | nil=>rfl
 | cons x r ih =>
  rw [yT,yT];cases (f x).isSome
  ·rw [yF (show (!false)=true from rfl),yy Yn,yC,yC];omega
  ·rw [yy (show ¬ (!true)=true by decide),yF (show true=true from rfl),yC,yC];omega
theorem qcU (hw:WOk ss ns) (p:Adj ss ns tps):(a,b)∈qR ss ns ss.length↔tA tps a b/\∃ i j:Nat,i<j/\ss[i]?=some a/\ss[j]?=some b:=by
 unfold qR;rw [xT];constructor
 ·rintro ⟨i,f,h⟩;have f:=YT.mp f;obtain ⟨s,l⟩:∃ s,ss[i]?=some s:=⟨_,yb f⟩;have d:ss.getD i ""=s:=by rw [Yr,l];rfl
  unfold qfl at h;rw [d] at h;obtain ⟨o,u,e⟩:=Yb.mp h;cases e;obtain ⟨h1,c⟩:=yp.mp u;obtain ⟨q,r⟩:=qee hw.nd h1;have n:ss[ss.idxOf b]?=some b:=by rw [yb (Yv q),YY]
  exact ⟨(p i _ _ _ l n).mp r,i,_,yk c,l,n⟩
 ·rintro ⟨h,i,j,g,h1,c⟩;refine ⟨i,YT.mpr (yc.mp h1).1,?_⟩;have d:ss.getD i ""=a:=by rw [Yr,h1];rfl
  have m:ss.idxOf b=j:=by
   have t:=ye c;exact qy hw.nd (by rw [yb (Yv t),YY]) c
  unfold qfl;rw [d];refine Yb.mpr ⟨b,yp.mpr ⟨?_,yB (by rw [m];exact g)⟩,rfl⟩;rw [qaa hw.nd];exact yp.mpr ⟨ye c,by rw [m];exact (p i j a b h1 c).mpr h⟩
theorem dps_nd (hw:WOk ss ns):(qR ss ns ss.length).Nodup:=by
 refine List.pairwise_flatMap.mpr ⟨fun i _=>?_,?_⟩
 ·unfold qfl;refine X4.mpr ?_;have nd:((inB ss 0 (ns.getD i 0)).filter fun o=>decide (i<ss.idxOf o)).Nodup:=by rw [qaa hw.nd];exact (hw.nd.filter _).filter _
  exact nd.imp fun c e=>c (Prod.mk.inj e).2
 ·refine xK (fun {i j} a b g q d r f e=>?_) (List.pairwise_lt_range (n:=ss.length));have a:=YT.mp a;have b:=YT.mp b;unfold qfl at d f;obtain ⟨_,_,rfl⟩:=Yb.mp d;obtain ⟨_,_,rfl⟩:=Yb.mp f;have e:=(Prod.mk.inj e).1;rw [Yr,Yr,yb a,yb b] at e;have:=qy hw.nd (yb a) (by rw [yb b];exact congrArg some e.symm);omega
theorem qe5 (hw:WOk ss ns) (A:Adj ss ns tps) (t:∀ ab∈tps,ab.1∈ss/\ab.2∈ss/\ab.1≠ab.2) (h:PFn ss tps g) {L:List (Str×Str)} (f:∀ a b,(a,b)∈L↔(a,b)∈qR ss ns ss.length/\g a=some b) (H:L.Sublist (qR ss ns ss.length)):PGo ss tps L/\pt L=g:=by
 have mem:∀ q∈L,g q.1=some q.2/\tA tps q.1 q.2/\∃ i j:Nat,i<j/\ss[i]?=some q.1/\ss[j]?=some q.2:=fun q c=>by
  obtain ⟨h1,G⟩:=(f q.1 q.2).mp c;exact ⟨G,(qcU hw A).mp h1⟩
 have inn:∀ {a b:Str},tA tps a b->a∈ss/\b∈ss/\a≠b:=fun z=>z.elim (fun y=>t _ y) fun y=>⟨(t _ y).2.1,(t _ y).1,(t _ y).2.2.symm⟩
 have nd:(qw L).Nodup:=by
  refine qbL (fun q c=>(inn (mem q c).2.1).2.2) (xK (fun {q r} c I n=>?_) (H.nodup (dps_nd hw)));obtain ⟨d,_,i,j,l1,o,p⟩:=mem q c;obtain ⟨x,_,K,M,l2,D,E⟩:=mem r I;have w:=h.sym _ _ d;have F:=h.sym _ _ x;refine ⟨fun z=>?_,fun z=>?_,fun z=>?_,fun z=>?_⟩
  ·rw [z,x] at d;exact n (Xd z (ym d).symm)
  ·rw [z,F] at d;have e:=ym d;rw [z] at o;rw [<- e] at p;have:=qy hw.nd o E;have:=qy hw.nd p D;omega
  ·rw [z,x] at w;have e:=ym w;rw [z] at p;rw [<- e] at o;have:=qy hw.nd o E;have:=qy hw.nd p D;omega
  ·rw [z,F] at w;exact n (Xd (ym w).symm z)
 have C:∀ q∈L,(q∈tps\/(q.2,q.1)∈tps)/\q.1∈ss/\q.2∈ss/\q.1≠q.2:=fun q c=>⟨(mem q c).2.1,inn (mem q c).2.1⟩
 have hl:L.length<=30:=by
  have:=qdq (l:=qw L) (m:=ss) nd fun s v=>by
   obtain ⟨q,c,v⟩:=xT.mp v;simp only [yv,yG,Yl] at v;rcases v with rfl | rfl
   ·exact (C q c).2.1
   ·exact (C q c).2.2.1
  rw [qak] at this;have:=hw.few;omega
 refine ⟨⟨C,nd,hl⟩,funext fun a=>qej fun b=>?_⟩;rw [qeh nd];constructor
 ·rintro (z | z)
  ·exact ((f _ _).mp z).2
  ·exact h.sym _ _ ((f _ _).mp z).2
 ·intro e;obtain ⟨m1,J,ne⟩:=inn (h.tie _ _ e);obtain ⟨i,B⟩:=yf m1;obtain ⟨j,u⟩:=yf J;rcases Nat.lt_trichotomy i j with l | l | l
  ·exact .inl ((f _ _).mpr ⟨(qcU hw A).mpr ⟨h.tie _ _ e,i,j,l,B,u⟩,e⟩)
  ·subst l;rw [B] at u;exact absurd (ym u) ne
  ·exact .inr ((f _ _).mpr ⟨(qcU hw A).mpr ⟨(h.tie _ _ e).symm,j,i,l,u,B⟩,h.sym _ _ e⟩)
theorem tps_ok (hw:WOk ss ns) (c:Adj ss ns tps) (d:∀ ab∈tps,ab.1∈ss/\ab.2∈ss/\ab.1≠ab.2) (h:PGo ss tps qs):PGo ss tps (qbr (qR ss ns ss.length) qs)/\pt (qbr (qR ss ns ss.length) qs)=pt qs:=
 qe5 hw c d h.fn (fun a b=>by unfold qbr;rw [yp,yQ]) List.filter_sublist
end
theorem qeo {f:Str->Option Str} (h:TurnR f rs):∃ g:Str->Option Str,∀ a b,g a=some b↔flipR f rs a b:=
 ⟨fun a=>@dite _ (∃ b,flipR f rs a b) (Classical.propDecidable _) (fun z=>some z.choose) fun _=>none,fun a b=>by
  dsimp only;split
  ·rename_i z
   exact ⟨fun e=>by rw [<- ym e];exact z.choose_spec,fun e=>congrArg some (z.choose_spec.one h e)⟩
  ·rename_i z
   exact ⟨(fun e=>by cases e),fun e=>absurd ⟨b,e⟩ z⟩⟩
section
variable {ss:List Str} {tps qs:List (Str×Str)} {f g:Str->Option Str} {rs:List Str}
theorem qep (h:TurnR f rs) (i:PFn ss tps f) (d:∀ a b,adjR rs a b->tA tps a b) (c:∀ a b,g a=some b↔flipR f rs a b):PFn ss tps g:=
 ⟨fun a b e=>(c _ _).mpr (((c _ _).mp e).symm h),fun a b e=>((c _ _).mp e).elim (fun z=>i.tie _ _ z.2) fun z=>d _ _ z.1⟩
theorem qdu (h:TurnR f rs) (i:∀ a b,g a=some b↔flipR f rs a b) (q:ss.Nodup) (e:∀ s∈rs,s∈ss) (c:rs[0]?=some a) (d:rs[rs.length-1]?=some b):qaP g ss+2=qaP f ss+(if (f a).isSome then 0 else 2)+(if (f b).isSome then 0 else 2):=by
 have C:=h.two;have l:=h.again i;unfold qaP;rw [qcD q h.nd e,qcD (p:=fun s=>(f s).isSome) q h.nd e];have o:=qen h c d;have j:=qen l c d
 have B:(ss.filter fun s=>(g s).isSome&&!decide (s∈rs))=ss.filter fun s=>(f s).isSome&&!decide (s∈rs):=xm fun s _=>by
  by_cases z:s∈rs
  ·rw [yB z];simp
  ·have:g s=f s:=qej fun b=>by
    rw [i];exact ⟨fun y=>y.elim (fun x=>x.2) fun x=>absurd x.1.mem.1 z,fun y=>.inl ⟨z,y⟩⟩
   rw [this]
 rw [B];obtain ⟨t,m⟩:∃ t,rs[1]?=some t:=⟨_,yb (by omega)⟩;obtain ⟨u,n⟩:∃ u,rs[rs.length-2]?=some u:=⟨_,yb (by omega)⟩;have r:=qdt h i ⟨0,.inl ⟨c,m⟩⟩ (h.fst a t c m) (l.fst a t c m);have v:=qdt h i (a:=b) (t:=u) ⟨rs.length-2,.inr ⟨n,by rw [show rs.length-2+1=rs.length-1 by omega];exact d⟩⟩ (h.lst b u d n) (l.lst b u d n);rw [r,v] at j;generalize (rs.filter fun s=>(g s).isSome).length=D at j ⊢;generalize (rs.filter fun s=>(f s).isSome).length=E at o ⊢;cases w:(f a).isSome<;>cases A:(f b).isSome<;>rw [w,A] at o j<;>simp at o j ⊢<;>omega
theorem qbN (c:∀ a b,f a=some b->f b=some a) (nd:rs.Nodup) (d:2<=rs.length) (st:Turns A f rs) (h:∀ s,rs[0]?=some s->f s=none) (tl:∀ s t,rs[rs.length-1]?=some s->rs[rs.length-2]?=some t->f s=none\/f s=some t):TurnR f rs:=by
 refine ⟨nd,d,c,fun j r s t i h1 l=>?_,fun s t h1 _=>.inl (h s h1),tl⟩;have e:=(st j r s i h1).2;have g:=(st (j+1) s t h1 l).2;have:f s=some r↔f r=some s:=⟨fun z=>c _ _ z,fun z=>c _ _ z⟩;rw [this,e,g];omega
theorem qcE (st:Turns (tA tps) f rs):∀ a b,adjR rs a b->tA tps a b:=fun a b h=>by
 obtain ⟨j,⟨h1,c⟩ | ⟨h1,c⟩⟩:=h
 ·exact (st j _ _ h1 c).1
 ·exact (st j _ _ h1 c).1.symm
theorem Aug.row (h:Aug (tA tps) (pt qs) rs) (hl:rs.length<=1000) (c:∀ ab∈tps,ab.1∈ss/\ab.2∈ss/\ab.1≠ab.2):RowG ss tps qs rs:=by
 refine ⟨h.nd,h.two,hl,fun r n=>?_,fun j ab e=>?_,h.hd,h.tl⟩
 ·obtain ⟨i,d⟩:=yf n;have m:=(yc.mp d).1;have q:=h.two;have inn:∀ {a b:Str},tA tps a b->a∈ss/\b∈ss:=fun z=>z.elim (fun y=>⟨(c _ y).1,(c _ y).2.1⟩) fun y=>⟨(c _ y).2.1,(c _ y).1⟩;by_cases l:i+1<rs.length
  ·exact (inn (h.st i r _ d (yb l)).1).1
  ·refine (inn (h.st (i-1) _ r (yb (by omega)) (by rw [show i-1+1=i by omega];exact d)).1).2
 ·obtain ⟨f,g⟩:=stp_at.mp e;obtain ⟨o,p⟩:=h.st j _ _ f g;exact ⟨o,YA.mpr p⟩
theorem Aug.turn (h:Aug (tA tps) (pt qs) rs) (c:∀ a b,pt qs a=some b->pt qs b=some a):TurnR (pt qs) rs:=
 qbN c h.nd h.two h.st h.hd fun s t e _=>.inl (h.tl s e)
theorem qeq (hw:WOk ss ns) (n:Adj ss ns tps) (f:∀ ab∈tps,ab.1∈ss/\ab.2∈ss/\ab.1≠ab.2) (e:PGo ss tps qs) (h:Aug (tA tps) (pt qs) rs) (hl:rs.length<=1000):PGo ss tps (flT (qR ss ns ss.length) qs rs)/\(flT (qR ss ns ss.length) qs rs).length=qs.length+1:=by
 have c:=h.turn e.fn.sym;obtain ⟨g,d⟩:=qeo c;obtain ⟨l,o⟩:=qe5 hw n f (qep c e.fn (qcE h.st) d) (L:=flT (qR ss ns ss.length) qs rs) (fun a b=>by rw [flT_flip c,d]) List.filter_sublist;refine ⟨l,?_⟩;have p:=e.cnt hw.nd;have m:=l.cnt hw.nd;rw [o] at m;have q:=h.two;obtain ⟨a,i⟩:∃ t,rs[0]?=some t:=⟨_,yb (by omega)⟩;obtain ⟨b,j⟩:∃ t,rs[rs.length-1]?=some t:=⟨_,yb (by omega)⟩;have:=qdu c d hw.nd (h.row hl f).inn i j;rw [h.hd a i,h.tl b j] at this;simp at this;omega
end
theorem Kr:FnScope ["web","pairs","now","rows","row"] ["web","pairs"] (qg jD):=fS
def MxF (ss:List Str) (tps qs:List (Str×Str)):Prop:=∃ S:FS,Fn (tA tps) (pt qs) S ss
structure Wt (cw:Addr) (H:Hp) (x:Addr) (ss:List Str) (ns:List Nat) (tps:List (Str×Str)):Prop where
 web:WebAt cw H x ss ns
 adj:Adj ss ns tps
 ok:∀ ab∈tps,ab.1∈ss/\ab.2∈ss/\ab.1≠ab.2
theorem Wt.same (h:Wt cw H x ss ns tps) (s:L2.Same H H'):Wt cw H' x ss ns tps:=⟨h.web.same s,h.adj,h.ok⟩
theorem Wt.wok (h:Wt cw H x ss ns tps):WOk ss ns:=by obtain ⟨_,_,_,_,_,_,_,_,z⟩:=h.web;exact z
theorem Wt.wb (h:Wt cw H x ss ns tps) (g:PGo ss tps qs):Wb (tA tps) ss qs:=by
 refine ⟨⟨fun z=>Or.symm z,fun z e=>?_,fun {a b} e=>g.fn.sym a b e,fun {a b} e=>g.fn.tie a b e⟩,fun a b z=>z.elim (fun y=>(h.ok _ y).1) fun y=>(h.ok _ y).2.1,g.nd,h.wok.few,h.wok.nd⟩;rcases z with z | z
 ·exact (h.ok _ z).2.2 e
 ·exact (h.ok _ z).2.2 e.symm
theorem Wt.bes (h:Wt cw H x ss ns tps):∀ (j:Nat) z u,ss[j]?=some z->(u∈inB ss 0 (ns.getD j 0)↔tA tps z u):=fun j z u e=>by
 rw [qaa h.wok.nd,yp];constructor
 ·rintro ⟨h1,b⟩;exact (h.adj j _ z u e (by rw [yb (Yv h1),YY])).mp b
 ·intro t;have a:u∈ss:=t.elim (fun y=>(h.ok _ y).2.1) fun y=>(h.ok _ y).1;exact ⟨a,(h.adj j _ z u e (by rw [yb (Yv a),YY])).mpr t⟩
theorem qfW {c:Addr} {a:Fo} (h:FoD c cw H0 H a ss ns qs S dn wt .non (tA tps)) (W:Wb (tA tps) ss qs):Fn (tA tps) (pt qs) S ss:=by
 rcases h.en with ⟨_,rfl,I,C,sg⟩ | ⟨t,r,e,_⟩
 ·have b:∀ v,v∈dn↔S.rows v≠none:=fun v=>by have:=h.fo.evi v;rwa [Yd] at this
  refine ⟨I,W.gr,W.inn,W.nd,fun v u hv d=>(C.cl v u ((b v).mpr hv) d).imp id fun z=>⟨z.1,YJ fun y=>z.2 ((b u).mpr y)⟩,sg,fun v hv=>h.fo.evs v ((h.fo.evi v).mpr hv)⟩
 ·cases e
def FRow (ss:List Str) (tps qs:List (Str×Str)) (H:Hp) (v:V) (H':Hp):Prop:=L2.Same H H'/\((v=.non/\MxF ss tps qs)\/∃ (r:Addr) (rs:List Str),v=.ref r/\H r=none/\H' r=some (.lst (rs.map V.str))/\rs.length<=1000/\Aug (tA tps) (pt qs) rs)
inductive spGf (cw:Addr) (vs:List V) (H:Hp) (Q:VK) (E:XK):Prop|mk (x l:Addr) (ss:List Str) (ns:List Nat) (us:List Addr) (tps qs:List (Str×Str)) (_:vs=[.ref x,.ref l]) (_:Wt cw H x ss ns tps) (_:PL H l us qs) (_:PGo ss tps qs) (_:∀ (t l2 r2:Addr) (ls:List Addr) (ws:List V) (rs:List (Str×Str)) (H':Hp),L2.Same H H'->H' t=some (.tup [.ref l2,.ref r2])->PL H' l2 ls rs->H' r2=some (.lst ws)->rs.length=qs.length+ws.length->PGo ss tps rs->MxF ss tps rs->Q (.ref t) H')
theorem qfp {l y:Addr} {Q:VK} (W:Wt cw G x ss ns tps) (n:PL G l us qs) (b:PGo ss tps qs) (f:G y=none) (i:G dx=none) (d:dx≠y)
  (h:∀ H0 H2 a S dn wt lo,a.x=y->FoD (cc 9) cw H0 H2 a ss ns qs S dn wt lo (tA tps)->L2.Same G H2->Q .non H2):spFi cc cw [.ref y,.ref x,.ref l] (upd (upd G dx (.own y)) y (.ins (cc 9) dx [])) Q E:=by
 have j:=qF (qF (Sr G) (o:=.own y) i) (o:=.ins (cc 9) dx []) (show upd G dx (.own y) y=none by rw [qf (Yh d)];exact f);refine ⟨y,dx,x,l,ss,ns,us,tps,qs,tA tps,rfl,qb,W.web.same j,W.adj,W.wb b,W.wok.nm,W.bes,n.same j,b.few,b.inn,fun H0 H' a S dn wt lo m _ g p=>h H0 H' a S dn wt lo m g fun c o e=>?_⟩;refine g.fo.sm c o (p c o ?_);rw [zB (fun z=>by rw [z,f] at e;cases e),qf (fun z=>by rw [z,f] at e;cases e),qf (fun z=>by rw [z,i] at e;cases e)];exact e
theorem qgJ {a:Fo} {Q:VK} (d:FoD (cc 9) cw H0 H2 a ss ns qs S dn wt lo (tA tps)) (i:Wb (tA tps) ss qs) (h:∀ v H',FRow ss tps qs H2 v H'->Q v H'):spFr cc cw [.ref a.x] H2 Q E:=by
 refine ⟨H0,a,ss,ns,qs,S,dn,wt,lo,_,rfl,d,fun e=>?_,fun t r e f g l hl=>?_⟩
 ·subst e;exact h _ _ ⟨L2.Same.refl _,.inl ⟨rfl,S,qfW d i⟩⟩
 ·refine h _ _ ⟨qF (Sr _) hl,.inr ⟨l,r,rfl,hl,qb,?_,g⟩⟩;rcases d.en with ⟨b,_⟩ | ⟨t',m,b,c,_,_,j⟩
  ·rw [e] at b;cases b
  ·rw [e] at b;cases b;rw [f] at c;have:=congrArg List.length (show r.map V.str=m.map V.str by injection (ym c));rw [ya,ya] at this;omega
theorem ok_gf (F:Fun K "greatest_from" "greatest_from" jD f fd) (T:Txt K mg cc cw) (uW:DefOk P w K mg base CX0 10 "told_pairs" ["web","pairs"] (spTp cw)) (uf:MakeOk P w K mg base CX0 10 (cc 9) "Forest" ["self","web","pairs"] (spFi cc cw)) (uo:MethOk P w K mg base CX0 1 (cc 9) "row" ["self"] (spFr cc cw)) (Um:DefOk P w K mg base CX0 12 "turned" ["web","pairs","row"] (spTu cw)):FnOk P w K mg base CX0 13 f fd ["web","pairs"] (spGf cw):=by
 refine F.ok Kr fun _ _ _ _ H vs Q E M h=>?_
 ·obtain ⟨x,l,ss,ns,us,tps,qs,rfl,W,hP,hG,q⟩:=h;have hu:=jV M;refine ⟨_,(qc (qk (i:=2) Kr.nd rfl (yK rfl) (qm uW (hmR M) qz (qa (pv 0) (qa (pv 1) qd))))
 (qc (qk (i:=3) Kr.nd rfl (yK rfl) (qJ qd))
 (qc (qk (i:=4) Kr.nd rfl (yK rfl) (jj uo (hmR M) (qaV uf (hmR M) (qa (pv 0) (qa (pv 2) qd)))))
 (qc (qaR yU (qp qcK (pv 4) zE (qC _))
 (qc (qI (qbI (K:=K) rfl yR Ye Yg qM (pv 3) (qa (pv 4) qd)))
 (qc (qk (i:=2) Kr.nd rfl (yK rfl) (qm Um (hmR M) qz (qa (pv 0) (qa (pv 2) (qa (pv 4) qd)))))
 (qe (qk (i:=4) Kr.nd rfl (yK rfl) (jj uo (hmR M) (qaV uf (hmR M) (qa (pv 0) (qa (pv 2) qd)))))))))
 (qe (qj (jR (qa (pv 2) (qa (pv 3) qd))))))))),?_⟩
  ext;refine ⟨x,l,ss,ns,us,tps,qs,rfl,W.web,W.adj,hP,hG,fun l1 af H1 s1 ax I _ hA1=>?_⟩;ext;refine ⟨by decide,fun c N=>?_⟩;have s2:=qF (Sr H1) (o:=.lst []) N;have d:upd H1 c (.lst []) c=some (.lst []):=qb;have W2:=W.same (s1.trans s2);have u:=tps_ok W.wok W.adj W.ok hG
  have ad:(qbr (qR ss ns ss.length) qs).length=qs.length+0:=by
   have c1:=hG.cnt W.wok.nd;have c2:=u.1.cnt W.wok.nd;rw [u.2] at c2;omega
  have n:PL (upd H1 c (.lst [])) l1 af (qbr (qR ss ns ss.length) qs):=⟨s2 _ _ I,hA1.mono fun _ _ z=>s2 _ _ z.2.2⟩;have ai:=s1.trans s2;generalize upd H1 c (.lst [])=G at ai d W2 n;generalize qbr (qR ss ns ss.length) qs=g at n u ad;replace u:=u.1;ext;refine fun y dx hy D L=>qfp W2 n u hy D L fun H0 H3 a S dn wt lo ea hD s3=>?_;subst ea;obtain ⟨fx,ff,ak,_,_,_,al⟩:=id hD.fo.obj;refine ⟨rfl,a.x,fx,ff,rfl,ak,al _ (by decide +kernel),?_⟩;ext;refine qgJ hD (W2.wb u) fun v H4 hv=>?_;have ar:=ai.trans s3;have ae:H c=none:=s1.free N;have ah:l1≠c:=fun e=>by rw [e,N] at I;cases I
  ext;obtain ⟨Wv,C⟩:∃ Wv:Nat->L2.St->Hp->Prop,Wv=fun m σ J=>∃ (s:Addr) (us:List Addr) (g:List (Str×Str)) (j:List V) (v:V),σ=[some (.ref x),some (.ref l),some (.ref s),some (.ref c),some v]/\L2.Same H J/\PL J s us g/\s≠c/\PGo ss tps g/\J c=some (.lst j)/\g.length=qs.length+j.length/\m=8-g.length /\
   ((v=.non/\MxF ss tps g)\/∃ (r:Addr) (rs:List Str),v=.ref r/\r≠c/\J r=some (.lst (rs.map V.str))/\rs.length<=1000/\Aug (tA tps) (pt g) rs):=⟨_,rfl⟩
  refine ⟨Wv,⟨_,by
   rw [C];refine ⟨l1,af,g,[],v,rfl,ar.trans hv.1,n.same (s3.trans hv.1),ah,u,hv.1 _ _ (s3 _ _ d),ad,rfl,hv.2.imp id ?_⟩;rintro ⟨r,rs,e1,O,e3,e4,e5⟩;exact ⟨r,rs,e1,(fun z=>by rw [z,s3 _ _ d] at O;cases O),e3,e4,e5⟩⟩,fun m σ J ac=>?_⟩
  rw [C] at ac;obtain ⟨s,us,g,j,v,rfl,sJ,B,ap,gJ,d,hc,hm,hv⟩:=ac;ext
  have av:2*g.length<=14:=by
   have:=gJ.cnt W.wok.nd;have h2:qaP (pt g) ss<=ss.length:=yW _ _;have:=W.wok.few;omega
  rcases hv with ⟨rfl,mx⟩ | ⟨r,rs,rfl,nr,er,hl,au⟩
  ·refine ⟨rfl,_,rfl,qQ (fun h=>by simp at h) fun _=>?_⟩;ext;refine ⟨by show 2<=sizeLine;decide,fun t ht=>?_⟩;have s9:=qF (Sr J) (o:=.tup [.ref s,.ref c]) ht;exact q t s c us j g _ (sJ.trans s9) qb (B.same s9) (s9 _ _ d) hc gJ mx
  ·refine ⟨rfl,_,rfl,qag ⟨fun as H'=>∃ m',m'<m/\Wv m' as H',fun _ _ z=>z,?_⟩⟩;ext;refine ⟨.inl ⟨rfl,_,SqL.of d⟩,?_⟩;ext;refine ⟨c,_,_,rfl,rfl,d,qi (by omega),?_⟩;have sU:=qaj sJ (o:=.lst (j++[.ref r])) ae;have aa:PL (upd J c (.lst (j++[.ref r]))) s us g:=⟨by rw [qf ap];exact B.1,B.2.mono fun t ab z=>by rw [qf (qan z d (fun e=>by cases e))];exact z⟩;have U:upd J c (.lst (j++[.ref r])) r=some (.lst (rs.map V.str)):=by rw [qf nr];exact er
   have A:upd J c (.lst (j++[.ref r])) c=some (.lst (j++[.ref r])):=qb;generalize upd J c (.lst (j++[.ref r]))=G1 at sU aa U A ⊢;have WU:=W.same sU;ext;refine ⟨x,s,r,ss,ns,us,tps,g,rs,rfl,⟨WU.web,WU.adj,aa,gJ,U,au.row hl W.ok⟩,fun l3 ag H5 s5 p ao _ X=>?_⟩;obtain ⟨g3,c3⟩:=qeq W.wok W.adj W.ok gJ au hl;generalize flT (qR ss ns ss.length) g rs=p3 at X g3 c3;have n3:l3≠c:=fun e=>by rw [e,A] at p;cases p
   have Z:PL H5 l3 ag p3:=⟨ao,X.mono fun _ _ z=>z.2.2⟩;have aj:=sU.trans s5;have W5:=W.same aj;have R:=s5 _ _ A;ext;refine fun y dx hy D L=>qfp W5 Z g3 hy D L fun H6 H7 b S5 aw az ay eb Y s7=>?_;subst eb;obtain ⟨fy,fg,am,_,_,_,an⟩:=id Y.fo.obj;refine ⟨rfl,b.x,fy,fg,rfl,am,an _ (by decide +kernel),?_⟩;ext;refine qgJ Y (W5.wb g3) fun v H8 hv=>?_;ext;refine ⟨8-p3.length,by omega,?_⟩;rw [C];refine ⟨l3,ag,p3,j++[.ref r],v,rfl,(aj.trans s7).trans hv.1,Z.same (s7.trans hv.1),n3,g3,hv.1 _ _ (s7 _ _ R),by rw [c3,hc,yt];rfl,rfl,hv.2.imp id ?_⟩;rintro ⟨r',aq,e1,O,e3,e4,e5⟩;exact ⟨r',aq,e1,(fun z=>by rw [z,s7 _ _ R] at O;cases O),e3,e4,e5⟩
theorem uZ:FnScope ["web"] ["web"] (qg qad):=fS
inductive spGr (cw:Addr) (vs:List V) (H:Hp) (Q:VK) (E:XK):Prop|mk (x:Addr) (ss:List Str) (ns:List Nat) (tps:List (Str×Str)) (_:vs=[.ref x]) (_:Wt cw H x ss ns tps) (_:∀ (l:Addr) (ls:List Addr) (rs:List (Str×Str)) (H':Hp),L2.Same H H'->PL H' l ls rs->PGo ss tps rs->MxF ss tps rs->Q (.ref l) H')
theorem ok_gr (F:Fun K "greatest" "greatest" qad f fd) (T:Txt K mg cc cw) (p:DefOk P w K mg base CX0 13 "greatest_from" ["web","pairs"] (spGf cw)):FnOk P w K mg base CX0 14 f fd ["web"] (spGr cw):=by
 refine F.ok uZ fun _ _ _ _ H vs Q E a h=>?_
 ·obtain ⟨x,ss,ns,tps,rfl,W,q⟩:=h;have i:=jV a;refine ⟨_,(qe (qj (qr (qt (K:=K) rfl i) (qm p (hmR a) qz (qa (pv 0) (qa (qJ qd) qd))) qh (fun _ _=>rfl)))),?_⟩;ext;refine ⟨by decide,fun l hl=>?_⟩;have b:=qF (Sr H) (o:=.lst []) hl;ext;refine ⟨x,l,ss,ns,[],tps,[],rfl,W.same b,⟨qb,.nil⟩,⟨(fun q h=>by cases h),List.nodup_nil,by decide⟩,fun t l2 r m s rs H' n c g _ _ d e=>?_⟩;exact .inl (qbj c (v:=.ref l2) (qo (j:=0) rfl) (q l2 m rs H' (b.trans n) g d e))
noncomputable def tB (tps:List (Str×Str)) (a b:Str):Bool:=decide ((a,b)∈tps)||decide ((b,a)∈tps)
theorem tB_iff:tB tps a b=true↔tA tps a b:=by
 unfold tB tA;rw [XA,yQ,yQ]
noncomputable def del (l:List Str) (y:Str):List Str:=l.filter fun a=>!decide (a=y)
noncomputable def mo (tps:List (Str×Str)):Nat->List Str->Nat
 | 0,_=>0
 | _,[]=>0
 | n+1,x::r=>(r.filter (tB tps x)).foldl (fun m y=>max m (1+mo tps n (del r y))) (mo tps n r)
theorem qa1 (h:α->Nat):∀ (L:List α) (i:Nat),i<=L.foldl (fun m y=>max m (h y)) i/\(∀ y∈L,h y<=L.foldl (fun m y=>max m (h y)) i)/\(L.foldl (fun m y=>max m (h y)) i=i\/∃ y∈L,L.foldl (fun m y=>max m (h y)) i=h y)
 | [],i=>⟨yh _,(fun y hy=>by cases hy),.inl rfl⟩
 | a::r,i=>by
  obtain ⟨h1,b,c⟩:=qa1 h r (max i (h a));rw [List.foldl_cons];refine ⟨yi (Kb _ _) h1,fun y hy=>?_,?_⟩
  ·rcases yv.mp hy with rfl | hy
   ·exact yi (Nat.le_max_right _ _) h1
   ·exact b y hy
  ·rcases c with z | ⟨y,hy,z⟩
   ·rw [z];rcases Nat.le_total i (h a) with k | k
    ·exact .inr ⟨a,yN,Nat.max_eq_right k⟩
    ·exact .inl (Nat.max_eq_left k)
   ·exact .inr ⟨y,yz _ hy,z⟩
structure Mt (tps:List (Str×Str)) (l:List Str) (f:Str->Option Str):Prop where
 sym:∀ a b,f a=some b->f b=some a
 tie:∀ a b,f a=some b->tA tps a b
 inn:∀ a b,f a=some b->a∈l
theorem qae {f:Str->Option Str} {x:Str}:qaP f (x::r)=qaP f r+(if (f x).isSome=true then 1 else 0):=by
 unfold qaP;rw [yT];split
 ·rw [yC]
 ·rfl
theorem qbs {f:Str->Option Str} (h:∀ s∈l,(f s).isSome=(g s).isSome):qaP f l=qaP g l:=by
 unfold qaP;rw [xm h]
theorem mem_del:a∈del l y↔a∈l/\a≠y:=by
 unfold del;rw [yp,Xn,XG]
theorem zC {f:Str->Option Str}:∀ {r:List Str},r.Nodup->y∈r->qaP f r=qaP f (del r y)+(if (f y).isSome=true then 1 else 0)
 | [],_,h=>by cases h
 | x::r,hn,h=>by
  obtain ⟨d,g⟩:=yo.mp hn;by_cases e:x=y
  ·subst e
   have:del (x::r) x=r:=by
    unfold del;rw [yT,yy (by rw [yB rfl];decide)];exact kB.mpr fun a b=>by rw [yl (fun z=>d (by rw [<- z];exact b))];rfl
   rw [this,qae]
  ·have c:=(yv.mp h).resolve_left (Yh e);have:del (x::r) y=x::del r y:=by unfold del;rw [yT,yF (by rw [yl e];rfl)]
   rw [this,qae,qae,zC g c];omega
theorem qbt (l:List Str) (y:Str):(del l y).length<=l.length:=yW _ _
section
variable {tps:List (Str×Str)}
theorem qbz (i:∀ a b,tA tps a b->a≠b):∀ (n:Nat) {l:List Str} {f:Str->Option Str},l.length<=n->l.Nodup->Mt tps l f->qaP f l<=2*mo tps n l
 | n,[],f,_,_,_=>YI _
 | 0,x::r,f,h,_,_=>by simp at h
 | n+1,x::r,f,h,hn,hf=>by
  obtain ⟨A,o⟩:=yo.mp hn;have hl:r.length<=n:=by simpa using h
  obtain ⟨B,v,_⟩:=qa1 (fun y=>1+mo tps n (del r y)) (r.filter (tB tps x)) (mo tps n r);rw [qae];show _<=2*(r.filter (tB tps x)).foldl (fun m y=>max m (1+mo tps n (del r y))) (mo tps n r)
  cases e:f x with
  | none =>
   have:=qbz i n hl o (f:=f) ⟨hf.sym,hf.tie,fun a b z=>(yv.mp (hf.inn a b z)).resolve_left fun y=>by rw [y,e] at z;cases z⟩;simp only [kF,YQ,Xc];omega
  | some y =>
   have j:=i _ _ (hf.tie _ _ e);have d:=hf.sym _ _ e;have p:=(yv.mp (hf.inn y x d)).resolve_left (Yh j);have t:=v y (yp.mpr ⟨p,tB_iff.mpr (hf.tie _ _ e)⟩);have:=qbz i n (l:=del r y) (f:=fun a=>if a=x\/a=y then none else f a) (yi (qbt r y) hl) (o.filter _) ⟨fun a b z=>?_,fun a b z=>?_,fun a b z=>?_⟩
   ·rw [zC o p,d,qbs (g:=fun a=>if a=x\/a=y then none else f a) fun s u=>?_]
    ·simp only [XE,Xz]
     (try dsimp only at t)
     omega
    ·obtain ⟨h1,q⟩:=mem_del.mp u;rw [yy (fun z=>z.elim (fun z=>A (by rw [<- z];exact h1)) q)]
   ·(try dsimp only at z ⊢)
    split at z
    ·cases z
    ·rename_i hne
     have c:=hf.sym _ _ z;rw [yy (fun w=>?_)]
     ·exact c
     ·rcases w with w | w
      ·rw [w,e] at c;exact hne (.inr (ym c).symm)
      ·rw [w,d] at c;exact hne (.inl (ym c).symm)
   ·(try dsimp only at z)
    split at z
    ·cases z
    ·exact hf.tie _ _ z
   ·(try dsimp only at z)
    split at z
    ·cases z
    ·rename_i hne
     have:=(yv.mp (hf.inn a b z)).resolve_left fun w=>hne (.inl w);exact mem_del.mpr ⟨this,fun w=>hne (.inr w)⟩
theorem qb5 (p:∀ a b,tA tps a b->a≠b):∀ (n:Nat) {l:List Str},l.length<=n->l.Nodup->∃ f,Mt tps l f/\qaP f l=2*mo tps n l
 | n,[],_,_=>⟨fun _=>none,⟨(fun a b z=>by cases z),(fun a b z=>by cases z),(fun a b z=>by cases z)⟩,by cases n<;>rfl⟩
 | 0,x::r,h,_=>by simp at h
 | n+1,x::r,h,hn=>by
  obtain ⟨q,t⟩:=yo.mp hn;have hl:r.length<=n:=by simpa using h
  obtain ⟨_,_,B⟩:=qa1 (fun y=>1+mo tps n (del r y)) (r.filter (tB tps x)) (mo tps n r);show ∃ f,_/\_=2*(r.filter (tB tps x)).foldl (fun m y=>max m (1+mo tps n (del r y))) (mo tps n r);rcases B with z | ⟨y,j,z⟩
  ·obtain ⟨f,d,c⟩:=qb5 p n hl t;refine ⟨f,⟨d.sym,d.tie,fun a b e=>yz _ (d.inn a b e)⟩,?_⟩
   have A:f x=none:=by
    cases e:f x with
    | none=>rfl
    | some b=>exact absurd (d.inn _ _ e) q
   rw [qae,A,z,c];rfl
  ·obtain ⟨j,ty⟩:=yp.mp j;have ty:=tB_iff.mp ty;have i:=p _ _ ty;obtain ⟨f,d,c⟩:=qb5 p n (l:=del r y) (yi (qbt r y) hl) (t.filter _)
   have out:∀ {a b:Str},f a=some b->a≠x/\a≠y:=fun e=>by
    obtain ⟨h1,o⟩:=mem_del.mp (d.inn _ _ e);exact ⟨fun w=>q (by rw [<- w];exact h1),o⟩
   refine ⟨fun a=>if a=x then some y else if a=y then some x else f a,⟨fun a b e=>?_,fun a b e=>?_,fun a b e=>?_⟩,?_⟩
   ·(try dsimp only at e ⊢)
    split at e
    ·cases e;rename_i w;rw [yy (Yh i),yF rfl,w]
    ·split at e
     ·cases e;rename_i w;rw [yF rfl,w]
     ·have u:=d.sym _ _ e;obtain ⟨C,D⟩:=out u;rw [yy C,yy D];exact u
   ·(try dsimp only at e)
    split at e
    ·cases e;rename_i w;rw [w];exact ty
    ·split at e
     ·cases e;rename_i w;rw [w];exact Or.symm ty
     ·exact d.tie _ _ e
   ·(try dsimp only at e)
    split at e
    ·rename_i w;rw [w];exact yN
    ·split at e
     ·rename_i w;rw [w];exact yz _ j
     ·exact yz _ (mem_del.mp (d.inn _ _ e)).1
   ·rw [qae,zC t j,yF rfl,yy (Yh i),yF rfl,qbs (g:=f) fun s v=>?_]
    ·simp only [XE,Xz];rw [c,z];omega
    ·obtain ⟨h1,o⟩:=mem_del.mp v;rw [yy (fun w=>q (by rw [<- w];exact h1)),yy o]
theorem qfq (e:∀ a b,tA tps a b->a≠b) (h1:l.length<=n) (i:l.length<=m) (h:l.Nodup):mo tps n l=mo tps m l:=by
 obtain ⟨f,j,c⟩:=qb5 e n h1 h;obtain ⟨g,o,d⟩:=qb5 e m i h;have:=qbz e m i h j;have:=qbz e n h1 h o;omega
variable {ss:List Str} {qs:List (Str×Str)} {S:FS}
theorem Mt.gr {f:Str->Option Str} (c:∀ a b,tA tps a b->a≠b) (h:Mt tps ss f):Gr (tA tps) f:=⟨fun z=>Or.symm z,fun z=>c _ _ z,fun {a b} e=>h.sym a b e,fun {a b} e=>h.tie a b e⟩
theorem PGo.mt (g:PGo ss tps qs):Mt tps ss (pt qs):=⟨g.fn.sym,g.fn.tie,fun a b e=>by
 rcases qdr e with z | z
 ·exact (g.inn _ z).2.1
 ·exact (g.inn _ z).2.2.1⟩
theorem mx_mo (h:∀ a b,tA tps a b->a≠b) (e:ss.Nodup) (g:PGo ss tps qs) (m:MxF ss tps qs):qs.length=mo tps ss.length ss:=by
 obtain ⟨S,F⟩:=m;have c:=g.cnt e;have:=qbz h _ (yh _) e g.mt;obtain ⟨f,j,d⟩:=qb5 h _ (yh _) e;have k:=F.most (j.gr h)
 have p:(ss.filter fun u=>!(f u).isSome&&(S.rows u).isSome).length<=(snL f ss).length:=qdq (e.filter _) fun u l=>by
  obtain ⟨h1,i⟩:=yp.mp l;exact yp.mpr ⟨h1,((yX _ _).mp i).1⟩
 have n:=qbM (f:=f) (ss:=ss);have o:=qbM (f:=pt qs) (ss:=ss);omega
theorem mo_del_le (i:∀ a b,tA tps a b->a≠b) (j:ss.Nodup) (hv:v∈ss):mo tps (del ss v).length (del ss v)<=mo tps ss.length ss/\mo tps ss.length ss<=mo tps (del ss v).length (del ss v)+1:=by
 constructor
 ·obtain ⟨f,d,c⟩:=qb5 i _ (yh _) (j.filter (fun a=>!decide (a=v)))
  have n:f v=none:=by
   cases e:f v with
   | none=>rfl
   | some b=>exact absurd rfl (mem_del.mp (d.inn _ _ e)).2
  have:=qbz i _ (yh _) j (f:=f) ⟨d.sym,d.tie,fun a b e=>(mem_del.mp (d.inn a b e)).1⟩;rw [zC j hv,n] at this;simp only [kF,YQ,Xc] at this;have t:qaP f (del ss v)=2*mo tps (del ss v).length (del ss v):=c;omega
 ·obtain ⟨f,d,c⟩:=qb5 i _ (yh _) j;have h:(del ss v).Nodup:=j.filter _;rw [zC j hv] at c
  cases e:f v with
  | none =>
   have:=qbz i _ (yh _) h (f:=f) ⟨d.sym,d.tie,fun a b z=>mem_del.mpr ⟨d.inn a b z,fun w=>by rw [w,e] at z;cases z⟩⟩;rw [e] at c;simp at c;omega
  | some y =>
   have m:=d.sym _ _ e;have o:=i _ _ (d.tie _ _ e);have p:y∈del ss v:=mem_del.mpr ⟨d.inn _ _ m,Yh o⟩;have:=qbz i _ (yh _) h (f:=fun a=>if a=v\/a=y then none else f a) ⟨fun a b z=>?_,fun a b z=>?_,fun a b z=>?_⟩
   ·rw [zC h p,yF (show y=v\/y=y from .inr rfl)] at this;rw [zC h p,e,m,qbs (g:=fun a=>if a=v\/a=y then none else f a) fun s r=>?_] at c
    ·simp at c this;omega
    ·obtain ⟨h1,q⟩:=mem_del.mp r;rw [yy (fun z=>z.elim (fun z=>(mem_del.mp h1).2 z) q)]
   ·(try dsimp only at z ⊢)
    split at z
    ·cases z
    ·rename_i hne
     have l:=d.sym _ _ z;rw [yy (fun w=>?_)]
     ·exact l
     ·rcases w with w | w
      ·rw [w,e] at l;exact hne (.inr (ym l).symm)
      ·rw [w,m] at l;exact hne (.inl (ym l).symm)
   ·(try dsimp only at z)
    split at z
    ·cases z
    ·exact d.tie _ _ z
   ·(try dsimp only at z)
    split at z
    ·cases z
    ·rename_i hne
     exact mem_del.mpr ⟨d.inn a b z,fun w=>hne (.inl w)⟩
theorem mx_loose (x:∀ a b,tA tps a b->a≠b) (o:ss.Nodup) (g:PGo ss tps qs) (F:Fn (tA tps) (pt qs) S ss) (hv:v∈ss):mo tps (del ss v).length (del ss v)=mo tps ss.length ss↔S.rows v≠none:=by
 have cm:=mx_mo x o g ⟨S,F⟩;have c:=g.cnt o;have y:(del ss v).Nodup:=o.filter _;constructor
 ·intro e J;obtain ⟨f,l,d⟩:=qb5 x _ (yh _) y
  have q:f v=none:=by
   cases e:f v with
   | none=>rfl
   | some b=>exact absurd rfl (mem_del.mp (l.inn _ _ e)).2
  have U:Mt tps ss f:=⟨l.sym,l.tie,fun a b e=>(mem_del.mp (l.inn a b e)).1⟩;have k:=F.most (U.gr x);have Z:qaP f ss=qaP f (del ss v):=by rw [zC o hv,q];rfl
  have e1:=qbM (f:=f) (ss:=ss);have e2:=qbM (f:=pt qs) (ss:=ss);have B:v∈snL f ss:=mem_sn.mpr ⟨hv,q⟩
  have W:(ss.filter fun u=>!(f u).isSome&&(S.rows u).isSome).length<=((snL f ss).erase v).length:=qdq (o.filter _) fun u I=>by
   obtain ⟨h1,D⟩:=yp.mp I;obtain ⟨P,L⟩:=(yX _ _).mp D;exact (ki (fun z=>by rw [z,J] at L;cases L)).mpr (yp.mpr ⟨h1,P⟩)
  rw [xj B] at W;have:=xt B;omega
 ·intro G;obtain ⟨r,G⟩:=some_of G;have m:=F.fi.alt v r G;refine xF (mo_del_le x o hv).1 ?_
  suffices h:∃ f,Mt tps ss f/\f v=none/\qaP f ss=qaP (pt qs) ss by
   obtain ⟨f,l,C,K⟩:=h;have:=qbz x _ (yh _) y (f:=f) ⟨l.sym,l.tie,fun a b e=>mem_del.mpr ⟨l.inn a b e,fun w=>by rw [w,C] at e;cases e⟩⟩;rw [zC o hv,C] at K;simp only [kF,YQ,Xc] at K;omega
  obtain ⟨r0,N⟩:=m.tl;have j:r[r.length-1]?=some v:=by rw [N,yt];simp
  have ho:=m.odd;by_cases h1:r.length=1
  ·rw [h1] at j;exact ⟨pt qs,g.mt,m.hd v j,rfl⟩
  ·have D:2<=r.length:=by omega
   have lst:∀ s t,r[r.length-1]?=some s->r[r.length-2]?=some t->pt qs s=some t:=fun s t A H=>by
    have:=(m.st (r.length-2) t s H (by rw [show r.length-2+1=r.length-1 by omega];exact A)).2.mpr (by omega);exact g.fn.sym _ _ this
   have T:=qbN g.fn.sym m.nd D m.st m.hd fun s t A H=>.inr (lst s t A H);obtain ⟨f,l⟩:=qeo T;have p:=qep (ss:=ss) T g.fn (qcE m.st) l;have inn:∀ {a b:Str},tA tps a b->a∈ss:=fun z=>F.inn _ _ z
   have E:∀ s∈r,s∈ss:=fun s A=>by
    obtain ⟨i,n⟩:=yf A;have R:=(yc.mp n).1;by_cases O:i+1<r.length
    ·exact inn (m.st i s _ n (yb O)).1
    ·rw [show i=r.length-1 by omega,j] at n;rw [<- ym n];exact hv
   obtain ⟨u,I⟩:∃ u,r[r.length-2]?=some u:=⟨_,yb (by omega)⟩;obtain ⟨a,M⟩:∃ a,r[0]?=some a:=⟨_,yb (by omega)⟩
   have C:f v=none:=by
    cases e:f v with
    | none=>rfl
    | some b =>
     rcases (l v b).mp e with ⟨z,_⟩ | ⟨X,Y⟩
     ·exact absurd (ye j) z
     ·rcases X.at_ m.nd j with w | ⟨_,w⟩
      ·have:=(yc.mp w).1;omega
      ·rw [show r.length-1-1=r.length-2 by omega] at w;exact absurd (lst v b j w) Y
   refine ⟨f,⟨p.sym,p.tie,fun a b e=>inn (p.tie a b e)⟩,C,?_⟩;have:=qdu T l o E M j;rw [m.hd a M,lst v u j I] at this;simp at this;exact this
end
theorem Ud:FnScope ["_law_script","_law_k"] ["_law_script","_law_k"] (qg qa2):=fS
theorem u8:FnScope ["_law_cell_here"] ["_law_cell_here"] (qg qaB):=fS
theorem KS:FnScope ["_law_purse_here","_law_many_here","_law_digit","_law_number"] ["_law_purse_here","_law_many_here"] (qg qa3):=fS
theorem Ue:FnScope ["_law_purse_here","_law_most"] ["_law_purse_here","_law_most"] (qg qa4):=fS
inductive spCe (K:W.Frag) (vs:List V) (H:Hp) (Q:VK) (E:XK):Prop|mk (a:Addr) (ns:List Int) (k:Nat) (_:vs=[.ref a,.int (k:Int)]) (_:SqL K H a (ns.map V.int)) (_:k<1000) (_:∀ i:Int,Q (.int i) H)
def Pu (H:Hp) (p:Addr):Prop:=∃ a b c:Int,H p=some (.lst [.int a,.int b,.int c])/\0<=a/\0<=b/\b<2147483629/\0<=c
inductive spPu (vs:List V) (H:Hp) (Q:VK) (E:XK):Prop|mk (c:Int) (_:vs=[.int c]) (_:∀ (p:Addr) (H':Hp),L2.Same H H'->H p=none->Pu H' p->Q (.ref p) H')
inductive spTkP (vs:List V) (H:Hp) (Q:VK) (E:XK):Prop|mk (p:Addr) (m:Nat) (_:vs=[.ref p,.int (m:Int)]) (_:Pu H p) (_:0<m) (_:m<1000) (_:∀ (d:Nat) (H':Hp),d<m->But p H H'->Pu H' p->Q (.int (d:Int)) H')
inductive spMyP (vs:List V) (H:Hp) (Q:VK) (E:XK):Prop|mk (p:Addr) (m:Nat) (_:vs=[.ref p,.int (m:Int)]) (_:Pu H p) (_:m<=14) (_:∀ (d:Nat) (H':Hp),d<=max 8 m->But p H H'->Pu H' p->Q (.int (d:Int)) H')
theorem But.trans7 (a:But p H H1) (b:But p H1 H2):But p H H2:=fun c o n e=>b c o n (a c o n e)
theorem But.new7 {l:Addr} (a:But p H H1) (hl:H1 l=none):But p H (upd H1 l o):=fun c u n e=>by
 have:=a c u n e;have ne:c≠l:=fun z=>by rw [z,hl] at this;cases this
 rw [qf ne];exact this
theorem But.free7 {l:Addr} (a:But p H H1) (b:l≠p) (hl:H1 l=none):H l=none:=by
 cases e:H l with
 | none=>rfl
 | some o=>rw [a l o b e] at hl;cases hl
noncomputable abbrev iV (k:Nat):V:=.int (k:Int)
theorem ok_ce (F:Fun K "_law_cell" "_law_cell" qa2 f fd) (T:Txt K mg cc cw):FnOk P w K mg base CX0 1 f fd ["_law_script","_law_k"] (spCe K):=by
 refine F.ok Ud fun _ _ _ _ H vs Q E d h=>?_
 ·obtain ⟨a,ns,k,rfl,b,h1,q⟩:=h;have e:=jV d;refine ⟨_,(qc (qN (qp qdN (pv 1) (qu (qai (K:=K) rfl) rfl T.b_len xJ (qa (pv 0) qd)) (qC _)) (qe (qj (qr (qt (K:=K) rfl e) (pv 0) (pv 1) (fun _ _=>rfl)))) qv)
 (qe (qj (qx (jU (K:=K) rfl) (qx qbT qh (pv 1)) qh)))),?_⟩
  ext;refine vLenLs b ?_;rw [ya];ext;by_cases c:k<ns.length
  ·rw [yB (show (k:Int)<(ns.length:Int) by omega)];refine qag ?_;ext;refine .inl (vIxLs b (v:=.int ns[k]) (qo (by rw [yd,yb c];rfl)) ?_);exact q _
  ·rw [yl (show ¬ (k:Int)<(ns.length:Int) by omega)];refine yq ?_;ext;refine qbU (.inl ⟨by decide,by decide⟩) ?_;ext;exact q _
theorem ok_pu (F:Fun K "_law_purse" "_law_purse" qaB f fd) (T:Txt K mg cc cw):FnOk P w K mg base CX0 1 f fd ["_law_cell_here"] spPu:=by
 refine F.ok u8 fun _ _ _ _ H vs Q E d h=>?_
 ·obtain ⟨c,rfl,q⟩:=h;refine ⟨_,(qe (qj (qJ (qa (qu (qbc rfl) rfl T.b_max boot_max (qa qh (qa (qx qc4 (pv 0) (qx op_pow qh qh)) qd))) (qa (qx zF (pv 0) qh) (qa qh qd)))))),?_⟩;ext;refine vI ⟨by decide,by decide,by decide⟩ ?_;ext;refine ⟨_,_,rfl,?_⟩;ext;refine vI (by decide) ?_;ext;refine ⟨by show 3<=sizeLine;decide,fun p a=>?_⟩;have h1:=XC c (show (2147483629:Int)≠0 by decide);have b:=Xb c (show (0:Int)<2147483629 by decide);exact q p _ (qF (Sr H) a) a ⟨_,_,_,qb,by split<;>omega,h1,b,by decide⟩
theorem ok_tkp (F:Fun K "_law_take" "_law_take" qa3 f fd) (T:Txt K mg cc cw):FnOk P w K mg base CX0 1 f fd ["_law_purse_here","_law_many_here"] spTkP:=by
 refine F.ok KS fun _ _ _ _ H vs Q E S h=>?_
 ·obtain ⟨p,m,rfl,⟨a,b,c,J,A,B,j,hc⟩,W,h1,q⟩:=h;have g:=jV S;have l:(0:Int)<(m:Int):=by omega
  refine ⟨_,(qc (jv (qx (jU (K:=K) rfl) (qr (qt (K:=K) rfl g) (pv 0) qh (fun _ _=>rfl)) qh) (jy (pv 0) qh (jB g)))
 (qc (qN (qp qeB (qr (qt (K:=K) rfl g) (pv 0) qh (fun _ _=>rfl)) qh (qC _)) (qc (qk (i:=2) KS.nd rfl (yK rfl) (qx zF (qr (qt (K:=K) rfl g) (pv 0) qh (fun _ _=>rfl)) (pv 1)))
 (qc (jv (qx qdL (qr (qt (K:=K) rfl g) (pv 0) qh (fun _ _=>rfl)) (pv 1)) (jy (pv 0) qh (jB g)))
 (qe (qj (pv 2))))) qv)
 (qc (qk (i:=3) KS.nd rfl (yK rfl) (qx zF (qx (jU (K:=K) rfl) (qx (jU (K:=K) rfl) (qx qbT (qr (qt (K:=K) rfl g) (pv 0) qh (fun _ _=>rfl)) qh) (qx qbT qh (qr (qt (K:=K) rfl g) (pv 0) qh (fun _ _=>rfl)))) qh) qh))
 (qc (qk (i:=3) KS.nd rfl (yK rfl) (qx zF (qx qbT (pv 3) (pv 3)) qh))
 (qc (qk (i:=3) KS.nd rfl (yK rfl) (qx zF (qx qbT (qx (jU (K:=K) rfl) (pv 3) (qx qbT qh (qr (qt (K:=K) rfl g) (pv 0) qh (fun _ _=>rfl)))) qh) qh))
 (qe (qj (qx zF (qx qdL (qx zF (qx qbT (pv 3) (pv 3)) qh) qh) (pv 1))))))))),?_⟩
  ext;refine .inl (za J rfl ?_);ext;refine .inl (qdF J rfl ?_);have y:But p H (upd H p (.lst [.int a,.int b,.int (c+1)])):=fun x o n e=>by rw [qf n];exact e
  have d:upd H p (.lst [.int a,.int b,.int (c+1)]) p=some (.lst [.int a,.int b,.int (c+1)]):=qb;have N:upd H p (.lst (([V.int a,.int b,.int c]).set (2:Int).toNat (.int (c+1))))=upd H p (.lst [.int a,.int b,.int (c+1)]):=rfl;ext;rw [N];generalize upd H p (.lst [.int a,.int b,.int (c+1)])=H1 at y d;refine .inl (za d rfl ?_);ext;refine qQ (fun O=>?_) (fun O=>?_)
  ·ext;refine .inl (za d rfl ?_);ext;refine vI l ?_;ext;refine .inl (za d rfl ?_);ext;refine vI ⟨l,by omega⟩ ?_;ext;refine .inl (qdF d rfl ?_);ext;have L:=XC a (show (m:Int)≠0 by omega);have M:=Xb a l;have z:a % (m:Int)=(((a % (m:Int)).toNat:Nat):Int):=by omega
   rw [z];exact q _ _ (by omega) (fun x o n e=>by rw [qf n];exact y x o n e) ⟨_,_,_,qb,Int.ediv_nonneg A (by omega),B,j,by omega⟩
  ·ext;refine .inl (za d rfl ?_);ext;refine qbU (.inr ⟨by decide,by decide⟩) ?_;ext;refine .inl (za d rfl ?_);ext;refine qbU (.inl ⟨by decide,by decide⟩) ?_;ext;refine vI (by decide) ?_;ext;generalize r:(b*48271+7919*(c+1)+11) % 2147483647=t;have C:0<=t:=by rw [<- r];exact XC _ (by decide)
   have D:t<2147483647:=by rw [<- r];exact Xb _ (by decide)
   refine qbU (.inl ⟨by omega,by omega⟩) ?_;ext;refine vI (by decide) ?_;ext;generalize R:t*t % 2147483629=U;refine .inl (za d rfl ?_);ext;refine qbU (.inl ⟨by decide,by decide⟩) ?_;ext;refine qbU (.inr ⟨by decide,by decide⟩) ?_;ext;refine vI (by decide) ?_;ext;generalize s:(U+31*(c+1))*69621 % 2147483587=u;have G:0<=u:=by rw [<- s];exact XC _ (by decide)
   have I:u<2147483587:=by rw [<- s];exact Xb _ (by decide)
   refine qbU (.inl ⟨by omega,by omega⟩) ?_;ext;refine vI (by decide) ?_;ext;refine vI ⟨by decide,by decide⟩ ?_;ext;refine vI l ?_;generalize u*u % 2147483579 / 8=v;have L:=XC v (show (m:Int)≠0 by omega);have M:=Xb v l;have z:v % (m:Int)=(((v % (m:Int)).toNat:Nat):Int):=by omega
   rw [z];exact q _ _ (by omega) y ⟨_,_,_,d,A,B,j,by omega⟩
theorem ok_my (F:Fun K "_law_many" "_law_many" qa4 f fd) (T:Txt K mg cc cw) (A:DefOk P w K mg base CX0 1 "_law_take" ["_law_purse_here","_law_many_here"] spTkP):FnOk P w K mg base CX0 2 f fd ["_law_purse_here","_law_most"] spMyP:=by
 refine F.ok Ue fun _ _ _ _ H vs Q E s h=>?_
 ·obtain ⟨p,m,rfl,N,W,q⟩:=h;have R:=jV s;refine ⟨_,(qe (qj (qm A (hmR s) qz (qa (pv 0) (qa (qr (qt (K:=K) rfl R) (qJ (qa qh (qa qh (qa qh (qa qh (qa qh (qa qh (qa qh (qa (qx (jU (K:=K) rfl) (pv 1) qh) qd))))))))) (qm A (hmR s) qz (qa (pv 0) (qa qh qd))) (fun _ _=>rfl)) qd))))),?_⟩;ext;obtain ⟨a,b,c,G,t⟩:=id N;refine ⟨by show 8<=sizeLine;decide,fun e g=>?_⟩;have j:p≠e:=fun z=>by rw [<- z,G] at g;cases g
  obtain ⟨xs,i⟩:∃ xs:List Nat,xs=[3,5,7,8,8,9,9,m+1]:=⟨_,rfl⟩;have B:But p H (upd H e (.lst (xs.map iV))):=But.new7 (fun x o _ z=>z) g;have D:upd H e (.lst (xs.map iV)) e=some (.lst (xs.map iV)):=qb;have hB1:Pu (upd H e (.lst (xs.map iV))) p:=⟨a,b,c,by rw [qf j];exact G,t⟩;have M:upd H e (.lst [V.int 3,.int 5,.int 7,.int 8,.int 8,.int 9,.int 9,.int ((m:Int)+1)])=upd H e (.lst (xs.map iV)):=by rw [i];rfl
  have u:∀ x∈xs,0<x/\x<=max 8 m+1:=fun x l=>by
   rw [i] at l;simp only [yv,yG,Yl] at l;omega
  have S:xs.length=8:=by rw [i];rfl
  rw [M];generalize upd H e (.lst (xs.map iV))=H1 at B D hB1;ext;refine ⟨p,8,rfl,hB1,by decide,by decide,fun d H2 U C n=>?_⟩;obtain ⟨x,l⟩:∃ x,xs[d]?=some x:=⟨_,yb (by omega)⟩;have y:=u x (ye l);refine .inl (za (C _ _ j.symm D) (v:=iV x) (qo (by rw [yd,l];rfl)) ?_);ext;exact ⟨p,x,rfl,n,y.1,by omega,fun L I O J r=>q L I (by omega) ((B.trans7 C).trans7 J) r⟩
theorem Ku:FnScope ["_law_purse_here","_law_many_here","_law_letters","_law_first","_law_step","_law_way","_law_stem","_law_found","_law_k","_law_sign"] ["_law_purse_here","_law_many_here"] (qg zP):=fS
theorem qcV {X:L2.Cx} {st:List PySem.Stmt} {t:L2.TS} (t':L2.TS) (h:L2.PSs X st t) (k:∀ D b H,t' D b H->t D b H):L2.PSs X st t':=fun a s b H D I q=>h a s b H D I (k D b H q)
noncomputable def stepsJ:List Nat:=[1,3,5,7,9,11]
noncomputable def cJ (first step j:Nat):Nat:=97+(first+step*j) % 26
theorem cJ_sg (first step j:Nat):sg (cJ first step j)=true:=by unfold cJ;exact qfT (by omega) (by omega)
theorem qe6 {step:Nat} (a:step∈stepsJ) {k:Nat} (b:j<14) (c:k<14) (e:cJ first step j=cJ first step k):j=k:=by
 unfold cJ at e;simp only [stepsJ,yv,yG,Yl] at a;rcases a with rfl | rfl | rfl | rfl | rfl | rfl<;>omega
def NmJ (a first step j:Nat) (s:Str):Prop:=zd s=true/\if a=2 then s.cps.toList.head?=some (cJ first step j) else s.cps.toList.getLast?=some (cJ first step j)
theorem NmJ.inj {a step:Nat} (f:step∈stepsJ) {k:Nat} (d:j<14) (e:k<14) (h:NmJ a first step j s) (g:NmJ a first step k s):j=k:=by
 have c:=h.2;have b:=g.2;by_cases hw:a=2
 ·rw [yF hw] at c b;rw [c] at b;exact qe6 f d e (ym b)
 ·rw [yy hw] at c b;rw [c] at b;exact qe6 f d e (ym b)
theorem zl (a b:Int):(if false=true then !eqV (V.int a) (V.int b) else eqV (V.int a) (V.int b))=decide (a=b):=by
 rw [yy (by decide)];unfold eqV;by_cases h:a=b<;>simp [h]
inductive spNmJ (vs:List V) (H:Hp) (Q:VK) (E:XK):Prop|mk (p:Addr) (m:Nat) (_:vs=[.ref p,.int (m:Int)]) (_:Pu H p) (_:m<=14) (_:∀ (l:Addr) (ss:List Str) (H':Hp),But p H H'->Pu H' p->H l=none->l≠p->H' l=some (.lst (ss.map V.str))->NOk ss->ss.length=m->Q (.ref l) H')
theorem Pu.new {l:Addr} (h:Pu H p) (hl:H l=none):Pu (upd H l o) p:=by
 obtain ⟨a,b,c,e,r⟩:=h;have ne:p≠l:=fun z=>by rw [<- z,e] at hl;cases hl
 exact ⟨a,b,c,by rw [qf ne];exact e,r⟩
theorem Pu.apart {l:Addr} (h:Pu H p) (hl:H l=none):l≠p:=fun z=>by obtain ⟨a,b,c,e,r⟩:=h;rw [z,e] at hl;cases hl
theorem ok_nmJ (F:Fun K "_law_names" "_law_names" zP f fd) (T:Txt K mg cc cw) (Km:DefOk P w K mg base CX0 1 "_law_take" ["_law_purse_here","_law_many_here"] spTkP):FnOk P w K mg base CX0 2 f fd ["_law_purse_here","_law_many_here"] spNmJ:=by
 refine F.ok Ku fun _ _ _ s H vs Q E hr h=>?_
 ·obtain ⟨p,m,rfl,hB,hm,q⟩:=h;have hu:=jV hr;obtain ⟨TC5,U⟩:∃ t:TS,t=fun D σ H'=>(∀ u H',Q u H'->D.rt u H')/\∃ (x7 W X:Option V) (b first step:Nat) (a:Str),σ=[some (.ref p),some (.int (m:Int)),some (.str L26),some (.int (first:Int)),some (.int (step:Int)),some (.int (b:Int)),some (.str a),x7,W,X]/\But p H H'/\Pu H' p/\step∈stepsJ/\a.length=5/\a.cps.toList.all sg=true:=⟨_,rfl⟩;refine ⟨_,(qc (qk (i:=2) Ku.nd rfl (XT rfl) jh)
 (qc (qk (i:=3) Ku.nd rfl (yK rfl) (qm Km (hmR hr) qz (qa (pv 0) (qa qh qd))))
 (qc (qk (i:=4) Ku.nd rfl (yK rfl) (qr (qt (K:=K) rfl hu) (qJ (qa qh (qa qh (qa qh (qa qh (qa qh (qa qh qd))))))) (qm Km (hmR hr) qz (qa (pv 0) (qa qh qd))) (fun _ _=>rfl)))
 (qc (qk (i:=5) Ku.nd rfl (yK rfl) (qm Km (hmR hr) qz (qa (pv 0) (qa qh qd))))
 (qc (qk (i:=6) Ku.nd rfl (yK rfl) (qbI (K:=K) rfl PySem.F.plainAttrs_str PySem.F.slot_str_join PySem.F.type_str_join (k_join (K:=K) rfl) jh (qa (ji (sc:=qg zP) (XN:=["_law_purse_here","_law_many_here","_law_letters","_law_first","_law_step","_law_way","_law_stem","_law_found","_law_k","_law_sign"]) ["_law_k","_law_letters","_law_purse_here"] 1 [2,0] rfl rfl rfl (by decide +kernel) rfl (by decide +kernel)
  (jQ rfl T.b_range (qa qh qd)) (fun _ _ _ _=>(qq (i:=0) (show (["_law_k","_law_letters","_law_purse_here"]:List Str).Nodup by decide +kernel) rfl (yK rfl))) jc
  (fun _ _ _ _=>zf)
  (fun _ _ _ _=>(qr (qt (K:=K) rfl hu) (pv 1) (qm Km (hmR hr) qz (qa (pv 2) (qa qh qd))) (fun _ _=>rfl)))) qd)))
 (qcV TC5 (qc (qk (i:=7) Ku.nd rfl (yK rfl) (qJ qd))
 (qc (jf yU rfl (jQ rfl T.b_range (qa (pv 1) qd)) (qq (i:=8) Ku.nd rfl (yK rfl))
 (qc (qk (i:=9) Ku.nd rfl (yK rfl) (qr (qt (K:=K) rfl hu) (pv 2) (qx zF (qx (jU (K:=K) rfl) (pv 3) (qx qbT (pv 4) (pv 8))) qh) (fun _ _=>rfl)))
 (qe (qN (qp (zM (K:=K) rfl hu) (pv 5) qh (qC _)) (qe (qI (qbI (K:=K) rfl yR Ye Yg qM (pv 7) (qa (pv 9) qd)))) (qe (qN (qp (zM (K:=K) rfl hu) (pv 5) qh (qC _)) (qe (qI (qbI (K:=K) rfl yR Ye Yg qM (pv 7) (qa (qx (jU (K:=K) rfl) (jA (qd3 (K:=K) rfl) (pv 6) j4 (jH qh)) (pv 9)) qd)))) (qe (qN (qp (zM (K:=K) rfl hu) (pv 5) qh (qC _)) (qe (qI (qbI (K:=K) rfl yR Ye Yg qM (pv 7) (qa (qx (jU (K:=K) rfl) (pv 9) (jA (qd3 (K:=K) rfl) (pv 6) j4 (jH (qx zF (pv 8) qh)))) qd)))) (qe (qI (qbI (K:=K) rfl yR Ye Yg qM (pv 7) (qa (qx (jU (K:=K) rfl) (jA (qd3 (K:=K) rfl) (pv 6) j4 (jH (qx zF (pv 8) qh))) (pv 9)) qd))))))))))))
 (qe (qj (pv 7))))) ?cut5)))))),?_⟩
  case cut5 =>
   intro D σ H1 h;rw [U] at h;obtain ⟨hD,x7,W,X,b,first,step,a,rfl,b1,hB1,M,g,y⟩:=h;have lS:a.cps.toList.length=5:=by rw [<- g];simp [Str.length]
   have ac:∀ k,(a.cps.toList.take k).all sg=true:=fun k=>Yz.mpr fun c hc=>Yz.mp y c (List.mem_of_mem_take hc)
   have af:∀ k:Nat,(Txt.slice a none (some (k:Int))).length=min k 5:=fun k=>by
    have:(Txt.slice a none (some (k:Int))).length=(Txt.slice a none (some (k:Int))).cps.toList.length:=by simp [Str.length]
    rw [this,qaK,yP,lS]
   have as:0<step/\step<=11:=by
    have h:=M;simp only [stepsJ,yv,yG,Yl] at h;omega
   ext;refine ⟨by show 0<=sizeLine;decide,fun l hl=>?_⟩;have ae:=hB1.apart hl;ext;refine ⟨(m:Int),rfl,by omega,by omega,?_⟩;rw [yY];refine j0 (lo:=0) (n:=m) (fun i σ H'=>∃ (ss:List Str) (W X:Option V),σ=[some (.ref p),some (.int (m:Int)),some (.str L26),some (.int (first:Int)),some (.int (step:Int)),some (.int (b:Int)),some (.str a),some (.ref l),W,X]/\H'=upd H1 l (.lst (ss.map V.str))/\ss.length=i/\∀ (j:Nat) s,ss[j]?=some s->NmJ b first step j s) ⟨[],_,_,rfl,rfl,rfl,fun j s h=>by simp at h⟩ (fun i σ H' hi hp=>?_) fun σ H' hp=>?_
   ·obtain ⟨ss,W,X,rfl,rfl,I,L⟩:=hp;have A:upd H1 l (.lst (ss.map V.str)) l=some (.lst (ss.map V.str)):=qb;rw [X5];ext;refine qbU (.inl ⟨by omega,by omega⟩) ?_;ext;refine vI (by decide) ?_;have ec:((first:Int)+(step:Int)*(i:Int)) % 26=(((first+step*i) % 26:Nat):Int):=by omega
    rw [ec];refine .inl (qgB (by decide +kernel) (qe2 (by omega) (by omega)) ?_);rw [yY];have ak:97+(first+step*i) % 26=cJ first step i:=rfl;rw [ak];have N:=cJ_sg first step i;generalize R:cJ first step i=B at N
    have O:∀ (s:Str),NmJ b first step i s->∃ (aa:List Str) (W X:Option V),[some (V.ref p),some (.int (m:Int)),some (.str L26),some (.int (first:Int)),some (.int (step:Int)),some (.int (b:Int)),some (.str a),some (.ref l),some (.int (i:Int)),some (V.str ⟨#[B]⟩)]=[some (.ref p),some (.int (m:Int)),some (.str L26),some (.int (first:Int)),some (.int (step:Int)),some (.int (b:Int)),some (.str a),some (.ref l),W,X]/\upd (upd H1 l (.lst (ss.map V.str))) l (.lst (ss.map V.str++[.str s]))=upd H1 l (.lst (aa.map V.str))/\aa.length=i+1/\∀ (j:Nat) s,aa[j]?=some s->NmJ b first step j s:=fun s hs=>by
     refine ⟨ss++[s],_,_,rfl,?_,by rw [yt,I];rfl,fun j s' G=>?_⟩
     ·rw [yE];funext c;by_cases hc:c=l
      ·subst hc;rw [qb,qb];rfl
      ·rw [qf hc,qf hc,qf hc]
     ·by_cases al:j<ss.length
      ·rw [yZ al] at G;exact L j s' G
      ·rw [yJ (by omega)] at G
       have e0:j-ss.length=0:=by
        have:=(yc.mp G).1;simp only [yC,YX] at this;omega
       rw [e0] at G;cases G;have:j=i:=by omega
       rw [this];exact hs
    have C:(ss.map V.str).length<sizeLine:=by rw [ya];exact qi (by omega)
    ext;refine .inl (.inl (.inl ⟨rfl,rfl,?_⟩));rw [zl];ext;refine qQ (fun h=>?_) (fun h=>?_)
    ·have hw:(b:Int)=0:=yk h;ext;refine ⟨.inl ⟨rfl,_,.of A⟩,?_⟩;ext;refine ⟨l,_,_,rfl,rfl,A,C,?_⟩;refine O _ ⟨qaY rfl (by simp) (by simp) (by simp [N]),?_⟩;rw [yy (by omega),R];rfl
    ·have au:(b:Int)≠0:=fun e=>h (yB e);ext;refine .inl (.inl (.inl ⟨rfl,rfl,?_⟩));rw [zl];ext;refine qQ (fun h=>?_) (fun h=>?_)
     ·have hw:(b:Int)=1:=yk h;ext;refine ⟨.inl ⟨rfl,_,.of A⟩,?_⟩;ext;refine qge (yi (XJ g) (by decide)) ?_;have h2:=af 2;have t2:=qaK a 2;rw [show ((2:Nat):Int)=2 from rfl] at h2 t2;ext;refine qff (by rw [h2];show _+1<=sizeLine;exact Yc (qi (by omega))) ?_;ext;refine ⟨l,_,_,rfl,rfl,A,C,?_⟩;have S:(Txt.slice a none (some 2)++(⟨#[B]⟩:Str)).cps.toList=a.cps.toList.take 2++[B]:=by rw [qaz,t2]
      refine O _ ⟨qaY S (by simp) (by simp [lS]) (by rw [ku,ac];simp [N]),?_⟩;rw [yy (by omega),R,S,Xq];rfl
     ·have av:(b:Int)≠1:=fun e=>h (yB e);ext;refine .inl (.inl (.inl ⟨rfl,rfl,?_⟩));rw [zl];ext;have e6:(i:Int) % 6=((i % 6:Nat):Int):=by omega
      have h6:=af (i % 6);have t6:=qaK a (i % 6);refine qQ (fun h=>?_) (fun h=>?_)
      ·have hw:(b:Int)=2:=yk h;ext;refine ⟨.inl ⟨rfl,_,.of A⟩,?_⟩;ext;refine vI (by decide) ?_;ext;refine qge (yi (XJ g) (by decide)) ?_;rw [e6];refine qff (by rw [h6];show 1+_<=sizeLine;exact Yc (qi (by omega))) ?_;ext;refine ⟨l,_,_,rfl,rfl,A,C,?_⟩;have S:((⟨#[B]⟩:Str)++Txt.slice a none (some ((i % 6:Nat):Int))).cps.toList=B::a.cps.toList.take (i % 6):=by rw [qaz,t6];rfl
       refine O _ ⟨qaY S (by simp) (by simp [lS];omega) (by rw [kc,ac,N];rfl),?_⟩;rw [yF (by omega),R,S];rfl
      ·have aw:(b:Int)≠2:=fun e=>h (yB e);ext;refine ⟨.inl ⟨rfl,_,.of A⟩,?_⟩;ext;refine vI (by decide) ?_;ext;refine qge (yi (XJ g) (by decide)) ?_;rw [e6];ext;refine qff (by rw [h6];show _+1<=sizeLine;exact Yc (qi (by omega))) ?_;ext;refine ⟨l,_,_,rfl,rfl,A,C,?_⟩;have S:(Txt.slice a none (some ((i % 6:Nat):Int))++(⟨#[B]⟩:Str)).cps.toList=a.cps.toList.take (i % 6)++[B]:=by rw [qaz,t6]
       refine O _ ⟨qaY S (by simp) (by simp [lS];omega) (by rw [ku,ac];simp [N]),?_⟩;rw [yy (by omega),R,S,Xq];rfl
   ·obtain ⟨ss,W,X,rfl,rfl,I,L⟩:=hp;ext;refine hD _ _ (q l ss _ (b1.new7 hl) (hB1.new hl) (b1.free7 ae hl) ae qb ⟨by omega,nodup_key fun j k s G hk=>?_,fun s hs=>?_⟩ I)
    ·have ap:j<ss.length:=(yc.mp G).1;have aq:k<ss.length:=(yc.mp hk).1;exact NmJ.inj M (by omega) (by omega) (L j s G) (L k s hk)
    ·obtain ⟨j,G⟩:=yf hs;exact (L j s G).1
  ext;refine ⟨p,26,rfl,hB,by decide,by decide,fun first H1 hf b1 hB1=>?_⟩;ext;refine ⟨by show 6<=sizeLine;decide,fun m2 Z=>?_⟩;have am:=hB1.apart Z;have b2:=b1.new7 (o:=.lst (stepsJ.map iV)) Z;have em:upd H1 m2 (.lst (stepsJ.map iV)) m2=some (.lst (stepsJ.map iV)):=qb;have ad:Pu (upd H1 m2 (.lst (stepsJ.map iV))) p:=hB1.new Z;have eu:upd H1 m2 (.lst [V.int 1,V.int 3,V.int 5,V.int 7,V.int 9,V.int 11])=upd H1 m2 (.lst (stepsJ.map iV)):=rfl;rw [eu];generalize upd H1 m2 (.lst (stepsJ.map iV))=H2 at b2 em ad;ext;refine ⟨p,6,rfl,ad,by decide,by decide,fun d H3 hd b3 ah=>?_⟩;obtain ⟨st,M⟩:∃ st,stepsJ[d]?=some st:=⟨_,yb hd⟩;refine .inl (za (b3 _ _ am em) (v:=iV st) (qo (by rw [yd,M];rfl)) ?_);ext;refine ⟨p,4,rfl,ah,by decide,by decide,fun b H4 hw b4 ai=>?_⟩;have ag:=(b2.trans7 b3).trans7 b4;ext;refine ⟨rfl,?_⟩;ext;refine ⟨5,rfl,by decide,by decide,zX (lo:=0) (n:=5) (fun i ys J=>But p H J/\Pu J p/\∃ xs:List Str,ys=xs.map V.str/\xs.length=i/\∀ x∈xs,x.length=1/\x.cps.toList.all sg=true) ⟨ag,ai,[],rfl,rfl,fun _ h=>by cases h⟩ (fun i ys J hi hs=>?_) fun ys J hs=>?_⟩
  ·obtain ⟨bJ,Y,xs,rfl,ao,an⟩:=hs;ext;refine qag ?_;ext;refine ⟨p,26,rfl,Y,by decide,by decide,fun r J2 ar b5 aj=>?_⟩;refine .inl (qgB (by decide +kernel) (qe2 (by omega) (by omega)) ?_);refine ⟨by rw [ya];exact qi (by omega),bJ.trans7 b5,aj,xs++[_],by rw [yE];rfl,by rw [yt,ao];rfl,fun x hx=>?_⟩;rcases yD.mp hx with z | z
   ·exact an x z
   ·rw [yA.mp z];refine ⟨rfl,?_⟩;have:=qfT (c:=97+r) (by omega) (by omega);simp [this]
  ·obtain ⟨bJ,Y,zs,rfl,hn,h1⟩:=hs;refine ⟨by rw [ya,hn];decide,fun l5 h5=>?_⟩;ext;refine ⟨_,l5,zs,rfl,rfl,SqL.of qb,by rw [sum_ones fun x hx=>(h1 x hx).1,show ("":Str).length=0 by decide +kernel];omega,?_⟩;have g:(Txt.join "" zs).length=5:=by rw [join_len fun x hx=>(h1 x hx).1];omega
   have y:(Txt.join "" zs).cps.toList.all sg=true:=by
    have e:Txt.join "" zs=Str.join "" zs:=Yk.mp (join_plain_closes "" zs);rw [e];exact qdp fun x hx=>(h1 x hx).2
   generalize Txt.join "" zs=a at g y ⊢;ext;rw [U];exact ⟨fun _ _ z=>z,_,_,_,b,first,st,a,rfl,bJ.new7 h5,Y.new h5,ye M,g,y⟩
theorem Ky:FnScope ["_law_purse_here","_law_many_here","_law_way","_law_thin","_law_found","_law_d","_law_k","_law_pair"] ["_law_purse_here","_law_many_here"] (qg qa5):=fS
noncomputable abbrev iT (q:Nat×Nat):HO:=.tup [.int (q.1:Int),.int (q.2:Int)]
def IPL (H:Hp) (l:Addr) (ts:List Addr) (TI:List (Nat×Nat)):Prop:=H l=some (.lst (ts.map V.ref))/\All2 (fun t q=>H t=some (iT q)) ts TI
theorem IPL.same {l:Addr} {TI:List (Nat×Nat)} (h:IPL H l ts TI) (s:L2.Same H H'):IPL H' l ts TI:=⟨s _ _ h.1,h.2.mono fun _ _ z=>s _ _ z⟩
theorem qfr {a:TA} {b:L2.St} {R:It->Hp->Prop} (h:a b H fun vs H1=>∃ i j:Int,vs=[.int i,.int j]/\(-(2 ^ 62)<=i/\i<2 ^ 62/\-(2 ^ 62)<=j/\j<2 ^ 62)/\R (Itr i (j-i).toNat) H1):qfE a b H R:=h
theorem qcW {i j:Int} {Q:VK} (q:Q (.bl (decide (i=j))) H):qf3 K (.int i) (.int j) H Q:=.inl (.inl (.inl ⟨rfl,rfl,by rw [zl];exact q⟩))
theorem qer (h:some (iT q')=some (iT q)):q'=q:=by
 injection h with h
 injection h with h
 injection h with h1 h2
 injection h1 with h1
 injection h2 with h2 _
 injection h2 with h2
 exact Xd (by omega) (by omega)
theorem ipair_eqD {a b:Addr} (g:H b=some (iT q')) (f:H a=some (iT q)):EqD K H 1 (.ref b) (.ref a) (decide (q'=q)):=by
 by_cases e:b=a
 ·subst e;rw [g] at f;have:q'=q:=qer f;rw [yB this];exact .self
 ·have z:=EqT.tup (K:=K) (H:=H) (n:=0) (e:=fun j=>if j=0 then eqV (iV q'.1) (iV q.1) else eqV (iV q'.2) (iV q.2)) (SqT.of g) (SqT.of f) fun j x y c d=>by
   match j,c,d with
   | 0,c,d=>cases c;cases d;exact .flat rfl rfl
   | 1,c,d=>cases c;cases d;exact .flat rfl rfl
   | n+2,c,d=>simp at c
  have m:((List.range (min [iV q'.1,iV q'.2].length [iV q.1,iV q.2].length)).all (fun j=>if j=0 then eqV (iV q'.1) (iV q.1) else eqV (iV q'.2) (iV q.2))&&[iV q'.1,iV q'.2].length==[iV q.1,iV q.2].length)=decide (q'=q):=by
   have i:eqV (iV q'.1) (iV q.1)=decide (q'.1=q.1):=by
    have:=zl (q'.1:Int) (q.1:Int);rw [yy (by decide)] at this;rw [this];exact YA.mpr (by omega)
   have l:eqV (iV q'.2) (iV q.2)=decide (q'.2=q.2):=by
    have:=zl (q'.2:Int) (q.2:Int);rw [yy (by decide)] at this;rw [this];exact YA.mpr (by omega)
   show ((if (0:Nat)=0 then eqV (iV q'.1) (iV q.1) else eqV (iV q'.2) (iV q.2))&&((if (1:Nat)=0 then eqV (iV q'.1) (iV q.1) else eqV (iV q'.2) (iV q.2))&&true)&&true)=_;rw [yF rfl,yy (by decide),i,l,Bool.and_true,Bool.and_true];rw [Yw,yX,yQ,yQ,yQ];exact ⟨fun h=>Xd h.1 h.2,fun h=>by rw [h];exact ⟨rfl,rfl⟩⟩
  rw [m] at z;exact .deep z e
theorem ipl_nin {l a:Addr} {TI:List (Nat×Nat)} {c:Nat×Nat} {Q:VK} (h:IPL H l ts TI) (n:H a=some (iT c)) (q:Q (.bl (!decide (c∈TI))) H):qex K true (.ref a) (.ref l) H Q:=by
 classical
 refine .inr (.inr ⟨l,ts.map V.ref,fun z=>decide (∃ t,z=.ref t/\H t=some (iT c)),1,rfl,SqL.of h.1,by decide,fun z hz=>?_,?_⟩)
 ·obtain ⟨b,o,rfl⟩:=Yb.mp hz;obtain ⟨q',_,r⟩:=h.2.mem o;have e:=ipair_eqD (K:=K) r n
  have m:decide (∃ t,V.ref b=.ref t/\H t=some (iT c))=decide (q'=c):=by
   apply YA.mpr;constructor
   ·rintro ⟨t,g,d⟩;cases g;rw [r] at d;exact qer d
   ·rintro rfl;exact ⟨b,rfl,r⟩
  show EqD K H 1 (.ref b) (.ref a) (decide (∃ t,V.ref b=.ref t/\H t=some (iT c)));rw [m];exact e
 ·have e:((ts.map V.ref).any fun z=>decide (∃ t,z=.ref t/\H t=some (iT c)))=decide (c∈TI):=by
   rw [Yw,YZ,yQ];constructor
   ·rintro ⟨z,hz,e⟩;obtain ⟨t,s,rfl⟩:=Yb.mp hz;obtain ⟨q',i,r⟩:=h.2.mem s;obtain ⟨t',g,d⟩:=yk e;cases g;rw [r] at d;have:q'=c:=qer d;rw [<- this];exact i
   ·intro p;obtain ⟨k,j,e⟩:=kA p;have f:k<ts.length:=by rw [h.2.len];exact j
    have r:=h.2.at_ k ts[k] TI[k] (yb f) (yb j);exact ⟨.ref ts[k],Yb.mpr ⟨_,xQ f,rfl⟩,yB ⟨ts[k],rfl,by rw [r,e]⟩⟩
  rw [yF rfl,e];exact q
def TJ (m:Nat) (TI:List (Nat×Nat)):Prop:=TI.length<=30/\(∀ q∈TI,q.1<q.2/\q.2<m)/\TI.Nodup
inductive spTsJ (vs:List V) (H:Hp) (Q:VK) (E:XK):Prop|mk (p:Addr) (m:Nat) (_:vs=[.ref p,.int (m:Int)]) (_:Pu H p) (_:m<=14) (_:∀ (l:Addr) (ts:List Addr) (TI:List (Nat×Nat)) (H':Hp),But p H H'->Pu H' p->H l=none->l≠p->IPL H' l ts TI->TJ m TI->Q (.ref l) H')
theorem IPL.butJ {l:Addr} {TI:List (Nat×Nat)} (h:IPL H l ts TI) (b:But p H H') (d:Pu H p) (hl:l≠p):IPL H' l ts TI:=
 ⟨b _ _ hl h.1,h.2.mono fun t q z=>b _ _ (fun e=>by obtain ⟨x,y,c,a,_⟩:=d;rw [e,a] at z;cases z) z⟩
theorem ok_tsJ (F:Fun K "_law_ties" "_law_ties" qa5 f fd) (T:Txt K mg cc cw) (Km:DefOk P w K mg base CX0 1 "_law_take" ["_law_purse_here","_law_many_here"] spTkP):FnOk P w K mg base CX0 2 f fd ["_law_purse_here","_law_many_here"] spTsJ:=by
 refine F.ok Ky fun _ _ _ _ H vs Q E hr h=>?_
 ·obtain ⟨p,m,rfl,hB,hm,q⟩:=h;have hu:=jV hr;obtain ⟨TC102,hTC102⟩:∃ t0:TS,t0=fun D X J=>∃ (l t:Addr) (B j:Nat) (vd vk:Int) (ts:List Addr) (TI:List (Nat×Nat)) (M:Nat×Nat),X=[some (.ref p),some (.int (m:Int)),some (.int (B:Int)),some (.int (j:Int)),some (.ref l),some (.int vd),some (.int vk),some (.ref t)]/\But p H J/\Pu J p/\H l=none/\l≠p/\IPL J l ts TI/\TJ m TI/\J t=some (iT M)/\M.2<m/\0<j/\j<=4 /\
   ∀ (J':Hp) (W:List Addr) (L:List (Nat×Nat)),But p H J'->Pu J' p->IPL J' l W L->TJ m L->D.nx [some (.ref p),some (.int (m:Int)),some (.int (B:Int)),some (.int (j:Int)),some (.ref l),some (.int vd),some (.int vk),some (.ref t)] J':=⟨_,rfl⟩
  refine ⟨_,(qc (qk (i:=2) Ky.nd rfl (yK rfl) (qm Km (hmR hr) qz (qa (pv 0) (qa qh qd))))
 (qc (qk (i:=3) Ky.nd rfl (yK rfl) (qr (qt (K:=K) rfl hu) (qJ (qa qh (qa qh (qa qh (qa qh (qa qh (qa qh qd))))))) (qm Km (hmR hr) qz (qa (pv 0) (qa qh qd))) (fun _ _=>rfl)))
 (qc (qk (i:=4) Ky.nd rfl (yK rfl) (qJ qd))
 (qc (jf yU rfl (qba rfl T.b_range (qa qh (qa (pv 1) qd))) (qq (i:=5) Ky.nd rfl (yK rfl))
 (qe (jf yU rfl (jQ rfl T.b_range (qa (qx qc4 (pv 1) (pv 5)) qd)) (qq (i:=6) Ky.nd rfl (yK rfl))
 (qc (qk (i:=7) Ky.nd rfl (yK rfl) (qr (qt (K:=K) rfl hu) (qJ (qa (jR (qa (pv 6) (qa (qx (jU (K:=K) rfl) (pv 6) (pv 5)) qd))) (qa (jR (qa (qx qc4 (pv 5) qh) (qa (qx (jU (K:=K) rfl) (pv 5) (pv 6)) qd))) (qa (jR (qa (qx zF (pv 5) qh) (qa (qx (jU (K:=K) rfl) (pv 6) (pv 5)) qd))) (qa (jR (qa (pv 6) (qa (qx (jU (K:=K) rfl) (pv 6) (pv 5)) qd))) qd))))) (pv 2) (fun _ _=>rfl)))
 (qc (qN (qp (zM (K:=K) rfl hu) (pv 2) qh (qC _)) (qe (qk (i:=7) Ky.nd rfl (yK rfl) (jR (qa (qm Km (hmR hr) qz (qa (pv 0) (qa (pv 5) qd))) (qa (pv 5) qd))))) qv)
 (qcV TC102 (qe (qN (PW.pt (qa8 (qp qdN (qr (qt (K:=K) rfl hu) (pv 7) qh (fun _ _=>rfl)) (qr (qt (K:=K) rfl hu) (pv 7) qh (fun _ _=>rfl)) (qC _)) (qa8 (qp (qaU (K:=K) rfl hu) (pv 7) (pv 4) (by with_unfolding_all rfl)) (qa8 (qp qdN (qu (qai (K:=K) rfl) rfl T.b_len xJ (qa (pv 4) qd)) qh (qC _)) (qbP (qp (zM (K:=K) rfl hu) (qm Km (hmR hr) qz (qa (pv 0) (qa (pv 3) qd))) qh (qC _))))))) (qe (qI (qbI (K:=K) rfl yR Ye Yg qM (pv 4) (qa (pv 7) qd)))) qv)) ?cut102))))))
 (qe (qj (pv 4))))))),?_⟩
  case cut102 =>
   intro D X J h;rw [hTC102] at h;obtain ⟨l,t,B,j,vd,vk,ts,TI,M,rfl,N,A,U,C,G,s,ht,hq,bj,bo,nx⟩:=h;ext;refine .inl (.inr (.inl ⟨t,_,_,_,rfl,rfl,SqT.of ht,rfl,?_⟩));ext;refine .inl (.inr (.inl ⟨t,_,_,_,rfl,rfl,SqT.of ht,rfl,?_⟩));ext;refine qQ (fun h1=>?_) (fun h1=>?_)
   ·have aw:M.1<M.2:=by have:=yk h1;omega
    ext;refine ipl_nin G ht ?_;ext;refine qQ (fun h2=>?_) (fun h2=>?_)
    ·have ax:M∉TI:=by simpa using h2
     ext;refine qbV G.1 ?_;rw [ya,G.2.len];ext;refine qQ (fun h3=>?_) (fun h3=>?_)
     ·have bm:TI.length<30:=by have:=yk h3;omega
      ext;refine ⟨p,j,rfl,A,bj,by omega,fun Y J2 ba b2 O=>?_⟩;have S:=G.butJ b2 A C;have Z:J2 t=some (iT M):=b2 _ _ (fun e=>by obtain ⟨x,y,c,e2,_⟩:=A;rw [e,e2] at ht;cases ht) ht;have b3:=N.trans7 b2;ext;refine qcW ?_;ext;refine qQ (fun h4=>?_) (fun h4=>?_)
      ·ext;refine ⟨.inl ⟨rfl,_,.of S.1⟩,?_⟩;ext;refine ⟨l,_,_,rfl,rfl,S.1,by rw [ya,G.2.len];exact qi (by omega),?_⟩;have as:∀ {c:Addr} {o:HO},J2 c=some o->(∀ xs,o≠.lst xs)->c≠l:=fun e bd z=>by rw [z,S.1] at e;cases e;exact bd _ rfl
       ext;refine nx _ (ts++[t]) (TI++[M]) (fun c u n e=>by rw [qf (fun z=>by rw [z,U] at e;cases e)];exact b3 c u n e) (by obtain ⟨x,y,c,e2,r⟩:=O;exact ⟨x,y,c,by rw [qf (Yh C)];exact e2,r⟩) ⟨by rw [qb,yE];rfl,All2.snoc (S.2.mono fun t' q z=>?_) ?_⟩ ⟨by rw [yt];show TI.length+1<=30;omega,fun q hq=>?_,?_⟩
       ·rw [qf (as z fun xs e=>by cases e)];exact z
       ·rw [qf (as Z fun xs e=>by cases e)];exact Z
       ·rcases yD.mp hq with z | z
        ·exact s.2.1 q z
        ·rw [yA.mp z];exact ⟨aw,by assumption⟩
       ·exact Yi.mpr ⟨s.2.2,XH _ _,fun a ha b hb e=>by rw [yA.mp hb] at e;exact ax (e ▸ ha)⟩
      ·ext;exact nx _ ts TI b3 O S s
     ·ext;exact nx _ ts TI N A G s
    ·ext;exact nx _ ts TI N A G s
   ·ext;exact nx _ ts TI N A G s
  ext;refine ⟨p,4,rfl,hB,by decide,by decide,fun B H1 hw b1 hB1=>?_⟩;ext;refine ⟨by show 6<=sizeLine;decide,fun m2 aa=>?_⟩;have bc:=hB1.apart aa;obtain ⟨xs,ad⟩:∃ xs:List Nat,xs=[1,1,2,2,3,4]:=⟨_,rfl⟩
  have bi:∀ x∈xs,0<x/\x<=4:=fun x hx=>by
   rw [ad] at hx;simp only [yv,yG,Yl] at hx;omega
  have bn:xs.length=6:=by rw [ad];rfl
  have b2:=b1.new7 (o:=.lst (xs.map iV)) aa;have em:upd H1 m2 (.lst (xs.map iV)) m2=some (.lst (xs.map iV)):=qb;have O:Pu (upd H1 m2 (.lst (xs.map iV))) p:=hB1.new aa;have eu:upd H1 m2 (.lst [V.int 1,V.int 1,V.int 2,V.int 2,V.int 3,V.int 4])=upd H1 m2 (.lst (xs.map iV)):=by rw [ad];rfl
  rw [eu];generalize upd H1 m2 (.lst (xs.map iV))=H2 at b2 em O;ext;refine ⟨p,6,rfl,O,by decide,by decide,fun d H3 hd b3 an=>?_⟩;obtain ⟨j,au⟩:∃ st,xs[d]?=some st:=⟨_,yb (by omega)⟩;have I:=bi j (ye au);refine .inl (za (b3 _ _ bc em) (v:=iV j) (qo (by rw [yd,au];rfl)) ?_);have af:=b2.trans7 b3;ext;refine ⟨by show 0<=sizeLine;decide,fun l hl=>?_⟩;have C:=an.apart hl;have U:=af.free7 C hl;have b4:=af.new7 (o:=.lst []) hl;have ao:Pu (upd H3 l (.lst [])) p:=an.new hl;have aq:IPL (upd H3 l (.lst [])) l [] []:=⟨qb,.nil⟩;generalize upd H3 l (.lst [])=H4 at b4 ao aq;ext;refine qfr ?_;ext;refine ⟨_,_,rfl,⟨by decide,by decide,by omega,by omega⟩,?_⟩;rw [show ((m:Int)-1).toNat=m-1 by omega];refine j0 (lo:=1) (n:=m-1) (fun i X J=>But p H J/\Pu J p/\∃ (ts:List Addr) (TI:List (Nat×Nat)) (y5 y6 y7:Option V),X=[some (.ref p),some (.int (m:Int)),some (.int (B:Int)),some (.int (j:Int)),some (.ref l),y5,y6,y7]/\IPL J l ts TI/\TJ m TI) ⟨b4,ao,[],[],_,_,_,rfl,aq,by decide,fun q hq=>(by cases hq),.nil⟩ (fun i X J hi hp=>?_) fun X J hp=>?_
  ·obtain ⟨N,A,ts,TI,y5,y6,y7,rfl,G,s⟩:=hp;ext;refine ⟨_,rfl,by omega,by omega,?_⟩;rw [show ((m:Int)-(1+(i:Int))).toNat=m-(1+i) by omega];refine j0 (lo:=0) (n:=m-(1+i)) (fun k X J=>But p H J/\Pu J p/\∃ (ts:List Addr) (TI:List (Nat×Nat)) (y6 y7:Option V),X=[some (.ref p),some (.int (m:Int)),some (.int (B:Int)),some (.int (j:Int)),some (.ref l),some (.int (1+(i:Int))),y6,y7]/\IPL J l ts TI/\TJ m TI) ⟨N,A,ts,TI,_,_,rfl,G,s⟩ (fun k X J hk hp=>?_) fun X J hp=>?_
   ·obtain ⟨N,A,ts,TI,y6,y7,rfl,G,s⟩:=hp;rw [X5];ext;refine ⟨by show 2<=sizeLine;decide,fun t1 bf=>?_⟩;have s1:=qF (Sr J) (o:=.tup [.int ((k:Int)),.int ((k:Int)+(1+(i:Int)))]) bf
    have ai:upd J t1 (.tup [.int ((k:Int)),.int ((k:Int)+(1+(i:Int)))]) t1=some (iT (k,k+(1+i))):=by
     rw [qb];show _=some (HO.tup [V.int ((k:Nat):Int),V.int ((k+(1+i):Nat):Int)]);rw [show ((k:Nat):Int)=(k:Int) by omega,show ((k+(1+i):Nat):Int)=(k:Int)+(1+(i:Int)) by omega]
    generalize upd J t1 (.tup [.int ((k:Int)),.int ((k:Int)+(1+(i:Int)))])=J1 at s1 ai;ext;refine ⟨by show 2<=sizeLine;decide,fun t2 Z=>?_⟩;have s2:=qF (Sr J1) (o:=.tup [.int (1+(i:Int)-1),.int (1+(i:Int)+(k:Int))]) Z
    have aj:upd J1 t2 (.tup [.int (1+(i:Int)-1),.int (1+(i:Int)+(k:Int))]) t2=some (iT (1+i-1,1+i+k)):=by
     rw [qb];show _=some (HO.tup [V.int ((1+i-1:Nat):Int),V.int ((1+i+k:Nat):Int)]);rw [show ((1+i-1:Nat):Int)=1+(i:Int)-1 by omega,show ((1+i+k:Nat):Int)=1+(i:Int)+(k:Int) by omega]
    generalize upd J1 t2 (.tup [.int (1+(i:Int)-1),.int (1+(i:Int)+(k:Int))])=J2 at s2 aj;ext;refine vI (by decide) ?_;ext;refine ⟨by show 2<=sizeLine;decide,fun t3 bg=>?_⟩;have s3:=qF (Sr J2) (o:=.tup [.int ((1+(i:Int)) % 3),.int ((k:Int)+(1+(i:Int)))]) bg
    have ak:upd J2 t3 (.tup [.int ((1+(i:Int)) % 3),.int ((k:Int)+(1+(i:Int)))]) t3=some (iT ((1+i) % 3,k+(1+i))):=by
     rw [qb];show _=some (HO.tup [V.int (((1+i) % 3:Nat):Int),V.int ((k+(1+i):Nat):Int)]);rw [show (((1+i) % 3:Nat):Int)=(1+(i:Int)) % 3 by omega,show ((k+(1+i):Nat):Int)=(k:Int)+(1+(i:Int)) by omega]
    generalize upd J2 t3 (.tup [.int ((1+(i:Int)) % 3),.int ((k:Int)+(1+(i:Int)))])=J3 at s3 ak;ext;refine ⟨by show 2<=sizeLine;decide,fun t4 bh=>?_⟩;have s4:=qF (Sr J3) (o:=.tup [.int ((k:Int)),.int ((k:Int)+(1+(i:Int)))]) bh
    have al:upd J3 t4 (.tup [.int ((k:Int)),.int ((k:Int)+(1+(i:Int)))]) t4=some (iT (k,k+(1+i))):=by
     rw [qb];show _=some (HO.tup [V.int ((k:Nat):Int),V.int ((k+(1+i):Nat):Int)]);rw [show ((k:Nat):Int)=(k:Int) by omega,show ((k+(1+i):Nat):Int)=(k:Int)+(1+(i:Int)) by omega]
    generalize upd J3 t4 (.tup [.int ((k:Int)),.int ((k:Int)+(1+(i:Int)))])=J4 at s4 al;ext;refine ⟨by show 4<=sizeLine;decide,fun g hg=>?_⟩;have s5:=qF (Sr J4) (o:=.lst [.ref t1,.ref t2,.ref t3,.ref t4]) hg;have eg:upd J4 g (.lst [.ref t1,.ref t2,.ref t3,.ref t4]) g=some (.lst [.ref t1,.ref t2,.ref t3,.ref t4]):=qb;generalize upd J4 g (.lst [.ref t1,.ref t2,.ref t3,.ref t4])=J5 at s5 eg;have ae:=(((s1.trans s2).trans s3).trans s4).trans s5
    obtain ⟨t,M,bb,ht,be⟩:∃ (t:Addr) (M:Nat×Nat),[V.ref t1,V.ref t2,V.ref t3,V.ref t4][B]?=some (.ref t)/\J5 t=some (iT M)/\M.2<m:=by
     have e1:=s5 _ _ (s4 _ _ (s3 _ _ (s2 _ _ ai)));have e2:=s5 _ _ (s4 _ _ (s3 _ _ aj));have e3:=s5 _ _ (s4 _ _ ak);have e4:=s5 _ _ al
     match B,hw with
     | 0,_=>exact ⟨t1,_,rfl,e1,by show k+(1+i)<m;omega⟩
     | 1,_=>exact ⟨t2,_,rfl,e2,by show 1+i+k<m;omega⟩
     | 2,_=>exact ⟨t3,_,rfl,e3,by show k+(1+i)<m;omega⟩
     | 3,_=>exact ⟨t4,_,rfl,e4,by show k+(1+i)<m;omega⟩
    ext;refine .inl (za eg (qo bb) ?_);have ah:=fun (c:Addr) (o:HO) (n:c≠p) (e:H c=some o)=>ae _ _ (N c o n e);have R:Pu J5 p:=by obtain ⟨x,y,c,e2,r⟩:=A;exact ⟨x,y,c,ae _ _ e2,r⟩
    have ar:=G.same ae;ext;refine qcW ?_;ext;refine qQ (fun h3=>?_) (fun h3=>?_)
    ·ext;refine ⟨p,1+i,?_,R,by omega,by omega,fun Y J6 ba b6 ay=>?_⟩
     ·show [V.ref p,V.int (1+(i:Int))]=_;rw [show ((1+i:Nat):Int)=1+(i:Int) by omega]
     have az:=ar.butJ b6 R C;ext;refine ⟨by show 2<=sizeLine;decide,fun t6 ac=>?_⟩;have av:=qF (Sr J6) (o:=.tup [.int (Y:Int),.int (1+(i:Int))]) ac
     have am:upd J6 t6 (.tup [.int (Y:Int),.int (1+(i:Int))]) t6=some (iT (Y,1+i)):=by
      rw [qb];show _=some (HO.tup [V.int (Y:Int),V.int ((1+i:Nat):Int)]);rw [show ((1+i:Nat):Int)=1+(i:Int) by omega]
     have ag:But p H (upd J6 t6 (.tup [.int (Y:Int),.int (1+(i:Int))])):=(But.trans7 ah b6).new7 ac;have ap:Pu (upd J6 t6 (.tup [.int (Y:Int),.int (1+(i:Int))])) p:=ay.new ac;generalize upd J6 t6 (.tup [.int (Y:Int),.int (1+(i:Int))])=J7 at av am ag ap;ext;rw [hTC102];exact ⟨l,t6,B,j,_,_,ts,TI,(Y,1+i),rfl,ag,ap,U,C,az.same av,s,am,by show 1+i<m;omega,I.1,I.2,fun J' W L h1 h2 h3 h4=>⟨h1,h2,W,L,_,_,rfl,h3,h4⟩⟩
    ·ext;rw [hTC102];exact ⟨l,t,B,j,_,_,ts,TI,M,rfl,ah,R,U,C,ar,s,ht,be,I.1,I.2,fun J' W L h1 h2 h3 h4=>⟨h1,h2,W,L,_,_,rfl,h3,h4⟩⟩
   ·obtain ⟨N,A,ts,TI,y6,y7,rfl,G,s⟩:=hp;ext;exact ⟨N,A,ts,TI,_,_,_,rfl,G,s⟩
  ·obtain ⟨N,A,ts,TI,y5,y6,y7,rfl,G,s⟩:=hp;ext;exact q l ts TI J N A U C G s
theorem K7:FnScope ["_law_names_here","_law_ties_here","_law_handed","_law_one","_law_other"] ["_law_names_here","_law_ties_here"] (qg qa6):=fS
theorem Wt.ir (W:Wt cw H x ss ns tps):∀ a b,tA tps a b->a≠b:=fun a b z e=>by
 rcases z with z | z
 ·exact (W.ok _ z).2.2 e
 ·exact (W.ok _ z).2.2 e.symm
noncomputable def tn (ss:List Str) (i:Nat):Str:=ss.getD i ""
noncomputable def nmP (ss:List Str) (p:Nat×Nat):Str×Str:=(tn ss p.1,tn ss p.2)
theorem qbA (h:i<ss.length):ss[i]?=some (tn ss i):=by unfold tn;rw [Yr,yb h];rfl
theorem qe7 (h:i<ss.length):tn ss i∈ss:=ye (qbA h)
theorem qcF (c:ss.Nodup) (a:i<ss.length) (b:j<ss.length) (e:tn ss i=tn ss j):i=j:=qy c (qbA a) (by rw [e];exact qbA b)
theorem qeI {n:Addr} {Q:VK} (h:H n=some (.lst (ss.map V.str))) (a:i<ss.length) (q:Q (.str (tn ss i)) H):qf2 K (.ref n) (.int (i:Int)) H Q:=
 .inl (za h (v:=.str (tn ss i)) (qo (by rw [yd,qbA a];rfl)) q)
noncomputable def hdP (ss:List Str) (q:Nat×Nat):Str×Str:=if (q.1+q.2) % 2=0 then nmP ss q else ((nmP ss q).2,(nmP ss q).1)
theorem qes (ss:List Str) (q:Nat×Nat):hdP ss q=nmP ss q\/hdP ss q=((nmP ss q).2,(nmP ss q).1):=by
 unfold hdP;split
 ·exact .inl rfl
 ·exact .inr rfl
theorem nm_one (a:ss.Nodup) {p:Nat×Nat} (b:p.1<p.2/\p.2<ss.length) (c:q.1<q.2/\q.2<ss.length) (e:nmP ss p=nmP ss q\/nmP ss p=((nmP ss q).2,(nmP ss q).1)):p=q:=by
 rcases e with e | e
 ·exact Xd (qcF a (by omega) (by omega) (congrArg Prod.fst e)) (qcF a b.2 c.2 (congrArg Prod.snd e))
 ·have h1:p.1=q.2:=qcF a (by omega) (by omega) (congrArg Prod.fst e);have d:p.2=q.1:=qcF a (by omega) (by omega) (congrArg Prod.snd e);omega
theorem qfX (b:ss.Nodup) {TI:List (Nat×Nat)} (h:TJ ss.length TI):∀ ab∈TI.map (nmP ss),ab.1∈ss/\ab.2∈ss/\ab.1≠ab.2:=fun ab a=>by
 obtain ⟨q,c,rfl⟩:=Yb.mp a;have:=h.2.1 q c;exact ⟨qe7 (by omega),qe7 this.2,fun e=>by have:=qcF b (by omega) this.2 e;omega⟩
theorem hd_tgo (i:ss.Nodup) {TI:List (Nat×Nat)} (h:TJ ss.length TI):TGo ss (TI.map (hdP ss)):=by
 refine ⟨by rw [ya];exact h.1,fun ab b=>?_,?_⟩
 ·obtain ⟨q,d,rfl⟩:=Yb.mp b;obtain ⟨h1,f,g⟩:=qfX i h _ (kC d);rcases qes ss q with e | e<;>rw [e]
  ·exact ⟨h1,f,g⟩
  ·exact ⟨f,h1,g.symm⟩
 ·refine X4.mpr (h.2.2.imp_of_mem fun {p q} j d c=>?_);have k:¬ (nmP ss p=nmP ss q\/nmP ss p=((nmP ss q).2,(nmP ss q).1)):=fun e=>c (nm_one i (h.2.1 p j) (h.2.1 q d) e);have a:∀ {x y:Str×Str},(x.2,x.1)=y->x=(y.2,y.1):=fun {x y} e=>by rw [<- e]
  rcases qes ss p with e | e<;>rcases qes ss q with e' | e'<;>refine ⟨fun z=>k ?_,fun z=>k ?_⟩<;>rw [e,e'] at z
  ·exact .inl z
  ·exact .inr z
  ·exact .inr z
  ·exact .inl z
  ·exact .inr (a z)
  ·exact .inl (a z)
  ·exact .inl (a z)
  ·exact .inr (a z)
theorem hd_tA {TI:List (Nat×Nat)}:tA (TI.map (hdP ss)) a b↔tA (TI.map (nmP ss)) a b:=by
 have k:∀ {a b:Str},(a,b)∈TI.map (hdP ss)->tA (TI.map (nmP ss)) a b:=fun {a b} h=>by
  obtain ⟨q,c,e⟩:=Yb.mp h;have m:nmP ss q∈TI.map (nmP ss):=kC c;rcases qes ss q with z | z<;>rw [z] at e
  ·rw [e] at m;exact .inl m
  ·have:nmP ss q=(b,a):=Xd (congrArg Prod.snd e) (congrArg Prod.fst e);rw [this] at m;exact .inr m
 have k':∀ {a b:Str},(a,b)∈TI.map (nmP ss)->tA (TI.map (hdP ss)) a b:=fun {a b} h=>by
  obtain ⟨q,c,e⟩:=Yb.mp h;have m:hdP ss q∈TI.map (hdP ss):=kC c;rcases qes ss q with z | z<;>rw [z,e] at m
  ·exact .inl m
  ·exact .inr m
 exact ⟨fun h=>h.elim k fun z=>(k z).symm,fun h=>h.elim k' fun z=>(k' z).symm⟩
theorem wt_new {y:Addr} (h:WebN H0 cw H y ss ns) (e:qbq ss ns kps) (g:TGo ss kps):Wt cw H y ss ns kps:=
 ⟨h.web,fun a b s t d c=>by rw [e.2.2 a b s t d c,yQ],g.inn⟩
theorem Wt.to {y:Addr} (h:Wt cw H y ss ns kps) (ok:∀ ab∈tps,ab.1∈ss/\ab.2∈ss/\ab.1≠ab.2) (e:∀ a b,a∈ss->b∈ss->(tA kps a b↔tA tps a b)):Wt cw H y ss ns tps:=
 ⟨h.web,fun a b s t c d=>(h.adj a b s t c d).trans (e s t (ye c) (ye d)),ok⟩
theorem WebN.older (h:WebN H1 cw H x ss ns) (s:L2.Same H0 H1):WebN H0 cw H x ss ns:=by
 obtain ⟨j,d,ol,n,h1,a,b,c,e,f,g,i⟩:=h;exact ⟨j,d,ol,n,h1,a,b,c,e,s.free f,s.free g,s.free i⟩
inductive spMdJ (cw:Addr) (vs:List V) (H:Hp) (Q:VK) (E:XK):Prop|mk (n l:Addr) (ss:List Str) (ts:List Addr) (TI:List (Nat×Nat)) (_:vs=[.ref n,.ref l]) (_:H n=some (.lst (ss.map V.str))) (_:NOk ss) (_:IPL H l ts TI) (_:TJ ss.length TI) (_:∀ (b:Addr) (ns:List Nat) (H':Hp),L2.Same H H'->H b=none->WebN H cw H' b ss ns->Wt cw H' b ss ns (TI.map (nmP ss))->Q (.ref b) H')
noncomputable def qcG (ns:List Nat) (a b:Nat):Bool:=(ns.getD a 0).testBit b
def BtJ (n:Nat) (TI:List (Nat×Nat)) (bs:List Nat):Prop:=bs.length=n/\(∀ a,bs.getD a 0<2 ^ n)/\∀ a b,qcG bs a b=true↔((a,b)∈TI\/(b,a)∈TI)
inductive spBtJ (vs:List V) (H:Hp) (Q:VK) (E:XK):Prop|mk (l:Addr) (n:Nat) (ts:List Addr) (TI:List (Nat×Nat)) (_:vs=[.int (n:Int),.ref l]) (_:n<=14) (_:IPL H l ts TI) (_:TJ n TI) (_:∀ (b:Addr) (bs:List Nat) (H':Hp),L2.Same H H'->H b=none->H' b=some (.lst (zG bs))->BtJ n TI bs->Q (.ref b) H')
theorem qet {m:Addr} {Q:VK} (e:H m=some (.lst (l.map V.str))) (q:Q (.bl (decide (s∈l))) H):qex K false (.str s) (.ref m) H Q:=
 .inl ⟨m,_,rfl,.inl (SqL.of e),rfl,flat_strs l,by rw [yy (by decide),qef];exact q⟩
theorem wmake {m l y:Addr} {Q:VK} (F:G m=some (.lst (ss.map V.str))) (g:ss.length<=14) (nd:ss.Nodup) (H:∀ s∈ss,zd s=true) (C:PL G l us kps) (j:TGo ss kps) (p:G y=none) (D:G dx=none) (i:dx≠y)
  (h:∀ ns H2,L2.Same G H2->WebN G cw H2 y ss ns->Wt cw H2 y ss ns kps->Q .non H2):spWeb cw [.ref y,.ref m,.ref l] (upd (upd G dx (.own y)) y (.ins cw dx [])) Q E:=by
 have f:=qF (qF (Sr G) (o:=.own y) D) (o:=.ins cw dx []) (show upd G dx (.own y) y=none by rw [qf (Yh i)];exact p);refine ⟨y,dx,m,l,ss,us,kps,rfl,qb,f _ _ F,g,nd,H,C.same f,j,fun ns H' b B A=>?_⟩
 have a:WebN G cw H' y ss ns:=by
  obtain ⟨I,d,ol,n,h1,q,r,t,u,v,w,x⟩:=B
  have k:∀ c,upd (upd G dx (.own y)) y (.ins cw dx []) c=none->G c=none:=fun c z=>by
   cases e:G c with
   | none=>rfl
   | some o=>rw [f _ _ e] at z;cases z
  exact ⟨I,d,ol,n,h1,q,r,t,u,k _ v,k _ w,k _ x⟩
 refine h ns H' (fun c o e=>b c o (fun z=>by rw [z,p] at e;cases e) (f _ _ e)) a (wt_new a A j)
theorem ok_mdJ (F:Fun K "_law_made" "_law_made" qa6 f fd) (T:Txt K mg cc cw) (UA:MakeOk P w K mg base CX0 5 cw "Web" ["self","names","ties"] (spWeb cw)):FnOk P w K mg base CX0 7 f fd ["_law_names_here","_law_ties_here"] (spMdJ cw):=by
 refine F.ok K7 fun _ _ _ _ H vs Q E hr h=>?_
 ·obtain ⟨n,l,ss,ts,TI,rfl,hn,I,G,Z,q⟩:=h;have R:=jV hr;refine ⟨_,(qc (qk (i:=2) K7.nd rfl (yK rfl) (qJ qd))
 (qc (jf yU rfl (qea (K:=K) rfl (pv 1)) (qcb rfl (jx (qq (i:=3) K7.nd rfl (yK rfl)) (jx (qq (i:=4) K7.nd rfl (yK rfl)) qa9)))
 (qe (qI (qbI (K:=K) rfl yR Ye Yg qM (pv 2) (qa (qr (qt (K:=K) rfl R) (qJ (qa (jR (qa (qr (qt (K:=K) rfl R) (pv 0) (pv 3) (fun _ _=>rfl)) (qa (qr (qt (K:=K) rfl R) (pv 0) (pv 4) (fun _ _=>rfl)) qd))) (qa (jR (qa (qr (qt (K:=K) rfl R) (pv 0) (pv 4) (fun _ _=>rfl)) (qa (qr (qt (K:=K) rfl R) (pv 0) (pv 3) (fun _ _=>rfl)) qd))) qd))) (qx zF (qx (jU (K:=K) rfl) (pv 3) (pv 4)) qh) (fun _ _=>rfl)) qd)))))
 (qe (qj (qaV UA (hmR hr) (qa (j3 (qbY (K:=K) rfl rfl) rfl T.b_list Xj (qa (pv 0) qd)) (qa (pv 2) qd))))))),?_⟩
  ext;refine ⟨by show 0<=sizeLine;decide,fun h M=>?_⟩;have s1:=qF (Sr H) (o:=.lst []) M;have eh:upd H h (.lst []) h=some (.lst []):=qb;generalize upd H h (.lst [])=H1 at s1 eh;ext;refine qfj ?_;ext;have hh:H h=none:=M;refine ⟨l,_,rfl,.of (s1 _ _ G.1),qT (xs:=ts.map V.ref) (fun i σ J=>L2.Same H J/\∃ (us:List Addr) (y3 y4:Option V),σ=[some (.ref n),some (.ref l),some (.ref h),y3,y4]/\J h=some (.lst (us.map V.ref))/\All2 (fun t ab=>J t=some (.tup [.str ab.1,.str ab.2])) us ((TI.take i).map (hdP ss))) ⟨s1,[],_,_,rfl,eh,.nil⟩ (fun i σ J _ O=>.of (O.1 _ _ G.1)) (fun i x σ J hx O=>?_) fun σ J O=>?_⟩
  ·obtain ⟨v,us,y3,y4,rfl,Y,D⟩:=O;rw [yd] at hx;obtain ⟨u,S,rfl⟩:=yn.mp hx;have hi:i<TI.length:=by rw [<- G.2.len];exact (yc.mp S).1
   obtain ⟨d,A⟩:∃ d,TI[i]?=some d:=⟨_,yb hi⟩;have ah:=v _ _ (G.2.at_ i u d S A);have hq:=Z.2.1 d (ye A);have m:=v _ _ hn;have ak:=Z.1;refine ⟨u,_,rfl,.of ah,rfl,_,_,rfl,_,_,rfl,rfl,?_⟩;ext;refine ⟨.inl ⟨rfl,_,.of Y⟩,?_⟩;ext;refine qeI m (by omega) ?_;ext;refine qeI m hq.2 ?_;ext;refine ⟨by show 2<=sizeLine;decide,fun r af=>?_⟩;have j:=qF (Sr J) (o:=.tup [.str (tn ss d.1),.str (tn ss d.2)]) af;have B:upd J r (.tup [.str (tn ss d.1),.str (tn ss d.2)]) r=some (.tup [.str (tn ss d.1),.str (tn ss d.2)]):=qb;generalize upd J r (.tup [.str (tn ss d.1),.str (tn ss d.2)])=X at j B;ext;refine qeI (j _ _ m) hq.2 ?_;ext;refine qeI (j _ _ m) (by omega) ?_;ext;refine ⟨by show 2<=sizeLine;decide,fun s ag=>?_⟩;have W:=qF (Sr X) (o:=.tup [.str (tn ss d.2),.str (tn ss d.1)]) ag;have C:upd X s (.tup [.str (tn ss d.2),.str (tn ss d.1)]) s=some (.tup [.str (tn ss d.2),.str (tn ss d.1)]):=qb;generalize upd X s (.tup [.str (tn ss d.2),.str (tn ss d.1)])=J3 at W C;ext;refine ⟨by show 2<=sizeLine;decide,fun g hg=>?_⟩;have s4:=qF (Sr J3) (o:=.lst [.ref r,.ref s]) hg;have eg:upd J3 g (.lst [.ref r,.ref s]) g=some (.lst [.ref r,.ref s]):=qb;generalize upd J3 g (.lst [.ref r,.ref s])=J4 at s4 eg;ext;refine vI (by decide) ?_
   obtain ⟨t,ae,ht⟩:∃ t,atI [V.ref r,V.ref s] (((d.1:Int)+(d.2:Int)) % 2)=some (.ref t)/\J4 t=some (.tup [.str (hdP ss d).1,.str (hdP ss d).2]):=by
    by_cases h0:(d.1+d.2) % 2=0
    ·rw [show ((d.1:Int)+(d.2:Int)) % 2=((0:Nat):Int) by omega];refine ⟨r,qo rfl,?_⟩;unfold hdP;rw [yF h0];exact s4 _ _ (W _ _ B)
    ·rw [show ((d.1:Int)+(d.2:Int)) % 2=((1:Nat):Int) by omega];refine ⟨s,qo rfl,?_⟩;unfold hdP;rw [yy h0];exact s4 _ _ C
   refine .inl (za eg ae ?_);have p:=(j.trans W).trans s4;have e4:=p _ _ Y;ext;have ai:us.length<=30:=by rw [D.len,ya,yP];omega
   refine ⟨h,_,_,rfl,rfl,e4,by rw [ya];exact qi (by omega),?_⟩;have N:∀ {c:Addr} {o:HO},J4 c=some o->(∀ xs,o≠.lst xs)->c≠h:=fun e y z=>by rw [z,e4] at e;cases e;exact y _ rfl
   refine ⟨fun c o e=>?_,us++[t],_,_,rfl,by rw [qb,yE];rfl,?_⟩
   ·rw [qf (fun z=>by rw [z,hh] at e;cases e)];exact (v.trans p) c o e
   ·rw [yM,A,yE];refine All2.snoc (D.mono fun t' ab z=>?_) ?_
    ·rw [qf (N (p _ _ z) fun xs e=>by cases e)];exact p _ _ z
    ·rw [qf (N ht fun xs e=>by cases e)];exact ht
  ·obtain ⟨v,us,y3,y4,rfl,Y,D⟩:=O;have e:(ts.map V.ref).length=TI.length:=by rw [ya,G.2.len]
   rw [e,yS] at D;ext;refine .inl ⟨n,_,rfl,.inl (.of (v _ _ hn)),fun c1 ad=>?_⟩;have j:=qF (Sr J) (o:=.lst (ss.map V.str)) ad;have ec:upd J c1 (.lst (ss.map V.str)) c1=some (.lst (ss.map V.str)):=qb;generalize upd J c1 (.lst (ss.map V.str))=X at j ec;ext;refine fun x' aj U L y=>?_;exact wmake ec I.few I.nd I.nm ⟨j _ _ Y,D.mono fun t ab z=>j _ _ z⟩ (hd_tgo I.nd Z) U L y fun ns H3 W aa ac=>⟨rfl,q x' ns H3 ((v.trans j).trans W) ((v.trans j).free U) (aa.older (v.trans j)) (ac.to (qfX I.nd Z) fun a b _ _=>hd_tA)⟩
theorem K8:FnScope ["_law_many_here","_law_ties_here","_law_found","_law_one","_law_other"] ["_law_many_here","_law_ties_here"] (qg qa7):=fS
theorem btJ_zero (n:Nat):BtJ n [] (List.replicate n 0):=by
 have z:∀ a,(List.replicate n 0).getD a 0=0:=fun a=>by
  rw [Yr,xO];split<;>rfl
 refine ⟨YN,fun a=>by rw [z a];exact XB n,fun a b=>?_⟩;unfold qcG;rw [z a];simp
theorem btJ_put {TI:List (Nat×Nat)} {bs:List Nat} (h:BtJ n TI bs) (i:q.1<q.2/\q.2<n):BtJ n (TI++[q]) ((bs.set q.1 (bs.getD q.1 0 ||| 2 ^ q.2)).set q.2 (bs.getD q.2 0 ||| 2 ^ q.1)):=by
 obtain ⟨hl,f,j⟩:=h;have l1:q.1<bs.length:=by omega
 have l2:q.2<(bs.set q.1 (bs.getD q.1 0 ||| 2 ^ q.2)).length:=by rw [xD];omega
 have c:q.1≠q.2:=by omega
 have g:∀ a,((bs.set q.1 (bs.getD q.1 0 ||| 2 ^ q.2)).set q.2 (bs.getD q.2 0 ||| 2 ^ q.1)).getD a 0=if q.2=a then bs.getD q.2 0 ||| 2 ^ q.1 else if q.1=a then bs.getD q.1 0 ||| 2 ^ q.2 else bs.getD a 0:=fun a=>by rw [zh l2,zh l1]
 refine ⟨by rw [xD,xD,hl],fun a=>?_,fun a b=>?_⟩
 ·rw [g a];split
  ·exact XZ (f _) (Xp (by decide) (by omega))
  ·split
   ·exact XZ (f _) (Xp (by decide) i.2)
   ·exact f a
 ·have base:=j a b;unfold qcG at base ⊢;rw [g a,yD,yD,yA,yA];by_cases e:q.2=a
  ·subst e;rw [yF rfl,X3,Y6,XA,base,yQ];constructor
   ·rintro ((z | z) | z)
    ·exact .inl (.inl z)
    ·exact .inr (.inl z)
    ·exact .inr (.inr (by rw [<- z]))
   ·rintro ((z | z) | (z | z))
    ·exact .inl (.inl z)
    ·exact absurd (congrArg Prod.fst z) (Yh c)
    ·exact .inl (.inr z)
    ·exact .inr (congrArg Prod.fst z).symm
  ·rw [yy e];by_cases d:q.1=a
   ·subst d;rw [yF rfl,X3,Y6,XA,base,yQ];constructor
    ·rintro ((z | z) | z)
     ·exact .inl (.inl z)
     ·exact .inr (.inl z)
     ·exact .inl (.inr (by rw [<- z]))
    ·rintro ((z | z) | (z | z))
     ·exact .inl (.inl z)
     ·exact .inr (congrArg Prod.snd z).symm
     ·exact .inl (.inr z)
     ·exact absurd (congrArg Prod.snd z) c
   ·rw [yy d,base];constructor
    ·rintro (z | z)
     ·exact .inl (.inl z)
     ·exact .inr (.inl z)
    ·rintro ((z | z) | (z | z))
     ·exact .inl z
     ·exact absurd (congrArg Prod.fst z).symm d
     ·exact .inr z
     ·exact absurd (congrArg Prod.snd z).symm e
theorem ok_btJ (F:Fun K "_law_bits" "_law_bits" qa7 f fd) (T:Txt K mg cc cw):FnOk P w K mg base CX0 1 f fd ["_law_many_here","_law_ties_here"] spBtJ:=by
 refine F.ok K8 fun _ _ _ _ H vs Q E X h=>?_
 ·obtain ⟨l,n,ts,TI,rfl,Y,j,S,q⟩:=h;have t:=jV X;refine ⟨_,(qc (qk (i:=2) K8.nd rfl (yK rfl) (qx qdY (qJ (qa qh qd)) (pv 0)))
 (qc (jf yU rfl (qea (K:=K) rfl (pv 1)) (qcb rfl (jx (qq (i:=3) K8.nd rfl (yK rfl)) (jx (qq (i:=4) K8.nd rfl (yK rfl)) qa9)))
 (qc (jv (qx qeA (qr (qt (K:=K) rfl t) (pv 2) (pv 3) (fun _ _=>rfl)) (qx qao qh (pv 4))) (jy (pv 2) (pv 3) (jB t)))
 (qe (jv (qx qeA (qr (qt (K:=K) rfl t) (pv 2) (pv 4) (fun _ _=>rfl)) (qx qao qh (pv 3))) (jy (pv 2) (pv 4) (jB t))))))
 (qe (qj (pv 2))))),?_⟩
  ext;refine ⟨by show 1<=sizeLine;decide,fun z C=>?_⟩;have O:=qF (Sr H) (o:=.lst [.int 0]) C;ext;refine ⟨z,_,_,rfl,rfl,qb,by omega,by omega,by show 1*_<=sizeLine;rw [yY];exact Yc (qi (by omega)),fun b M=>?_⟩;rw [yY,qcA];have D:=qF O (o:=.lst (zG (List.replicate n 0))) M;have m:H b=none:=O.free M;have L:upd (upd H z (.lst [.int 0])) b (.lst (zG (List.replicate n 0))) b=some (.lst (zG (List.replicate n 0))):=qb;generalize upd (upd H z (.lst [.int 0])) b (.lst (zG (List.replicate n 0)))=H2 at D L;ext;refine qfj ?_;ext;refine ⟨l,_,rfl,.of (D _ _ j.1),qT (xs:=ts.map V.ref) (fun i y J=>L2.Same H J/\∃ (bs:List Nat) (G I:Option V),y=[some (.int (n:Int)),some (.ref l),some (.ref b),G,I]/\J b=some (.lst (zG bs))/\BtJ n (TI.take i) bs) ⟨D,_,_,_,rfl,L,btJ_zero n⟩ (fun i y J _ p=>.of (p.1 _ _ j.1)) (fun i x y J N p=>?_) fun y J p=>?_⟩
  ·obtain ⟨v,bs,G,I,rfl,s,g⟩:=p;rw [yd] at N;obtain ⟨u,r,rfl⟩:=yn.mp N;have U:i<TI.length:=by rw [<- j.2.len];exact (yc.mp r).1
   obtain ⟨a,d⟩:∃ a,TI[i]?=some a:=⟨_,yb U⟩;have B:=v _ _ (j.2.at_ i u a r d);have W:=S.2.1 a (ye d);have l1:a.1<bs.length:=by rw [g.1];omega
   have l2:a.2<bs.length:=by rw [g.1];omega
   have A:a.1≠a.2:=by omega
   refine ⟨u,_,rfl,.of B,rfl,_,_,rfl,_,_,rfl,rfl,?_⟩;ext;refine .inl (za s (qo (jO l1)) ?_);ext;refine vI ⟨by omega,by omega,by decide⟩ ?_;ext;rw [qdo];refine .inl (qdF s (qb0 (by unfold zG;rw [ya];exact l1)) ?_);rw [qaW];ext;have R:(bs.set a.1 (bs.getD a.1 0 ||| 2 ^ a.2)).getD a.2 0=bs.getD a.2 0:=by rw [zh l1,yy A]
   refine .inl (za qb (qo (jO (by simpa using l2))) ?_);ext;refine vI ⟨by omega,by omega,by decide⟩ ?_;ext;rw [qdo,R];refine .inl (qdF qb (qb0 (by unfold zG;rw [ya];simpa using l2)) ?_);rw [qaW];ext;refine ⟨fun c o e=>?_,_,_,_,rfl,qb,?_⟩
   ·have hc:c≠b:=fun z=>by rw [z,m] at e;cases e
    rw [qf hc,qf hc];exact v c o e
   ·rw [yM,d];exact btJ_put g W
  ·obtain ⟨v,bs,G,I,rfl,s,g⟩:=p;have e:(ts.map V.ref).length=TI.length:=by rw [ya,j.2.len]
   rw [e,yS] at g;ext;exact q b bs J v m s g
noncomputable def j9 (m k:Nat):Nat:=m-(m &&& k)
theorem and_or_dis:∀ (a b:Nat),a &&& b=0->a+b=a ||| b:=by
 intro a
 induction a using Nat.strongRecOn with
 | ind a ih =>
  intro b h;by_cases d:a=0
  ·subst d;simp
  ·have c:(a / 2) &&& (b / 2)=0:=by rw [<- Nat.and_div_two,h]
   have e:=ih (a / 2) (by omega) (b / 2) c
   have h1:(a % 2) &&& (b % 2)=0:=by
    have:=congrArg (· % 2) h;simpa [Nat.and_mod_two_pow (n:=1)] using this
   have j:(a ||| b) / 2=a / 2 ||| b / 2:=Nat.or_div_two
   have i:(a ||| b) % 2=(a % 2) ||| (b % 2):=by
    simpa using Nat.or_mod_two_pow (a:=a) (b:=b) (n:=1)
   have g:(a % 2) ||| (b % 2)=a % 2+b % 2:=by
    rcases Xr a with x | x<;>rcases Xr b with y | y<;>rw [x,y] at h1 ⊢<;>first | rfl | exact absurd h1 (by decide)
   have f:=Nat.div_add_mod (a ||| b) 2;rw [j,i,g,<- e] at f;omega
theorem qdv (m k c:Nat):(j9 m k).testBit c=(m.testBit c&&!k.testBit c):=by
 have a:(m &&& k) &&& (m ^^^ (m &&& k))=0:=by
  apply kj;intro i;simp only [Xg,Kc,Nat.zero_testBit];cases m.testBit i<;>cases k.testBit i<;>rfl
 have h1:=and_or_dis _ _ a
 have d:(m &&& k) ||| (m ^^^ (m &&& k))=m:=by
  apply kj;intro i;simp only [Xg,Kc,X3];cases m.testBit i<;>cases k.testBit i<;>rfl
 have b:j9 m k=m ^^^ (m &&& k):=by unfold j9;omega
 rw [b];simp only [Xg,Kc];cases m.testBit c<;>cases k.testBit c<;>rfl
theorem qam (m k:Nat):Builtin.bitAnd (m:Int) (Builtin.bitNot (k:Int))=((j9 m k:Nat):Int):=by
 have a:Builtin.bitNot (k:Int)=-(k:Int)-1:=rfl;have b:Builtin.bitNot (-(k:Int)-1)=(k:Int):=by unfold Builtin.bitNot;omega
 unfold Builtin.bitAnd;rw [a,yB (by omega),yl (by omega)];dsimp only;rw [b,yY,yY];have:(m &&& k)<=m:=Nat.and_le_left;unfold j9;omega
theorem and_nat (m k:Nat):Builtin.bitAnd (m:Int) (k:Int)=((m &&& k:Nat):Int):=by
 unfold Builtin.bitAnd;rw [yB (by omega),yB (by omega)];dsimp only;rw [yY,yY]
inductive Rr (bs:List Nat) (r k:Nat):Nat->Prop
 | zero:Rr bs r k k
 | step {a b:Nat} (h:Rr bs r k a) (t:qcG bs a b=true) (i:r.testBit b=true):Rr bs r k b
noncomputable def cnt (n P:Nat):Nat:=((List.range n).filter fun c=>P.testBit c).length
theorem PGo.grt (c:∀ a b,tA tps a b->a≠b) (g:PGo ss tps qs):Gr (tA tps) (pt qs):=⟨fun z=>Or.symm z,fun z=>c _ _ z,fun {a b} e=>g.fn.sym a b e,fun {a b} e=>g.fn.tie a b e⟩
theorem mx_le {rs:List (Str×Str)} (d:∀ a b,tA tps a b->a≠b) (c:ss.Nodup) (g:PGo ss tps qs) (m:MxF ss tps qs) (g':PGo ss tps rs):rs.length<=qs.length:=by
 obtain ⟨S,F⟩:=m;have h1:=F.most (g'.grt d)
 have n:(ss.filter fun u=>!(pt rs u).isSome&&(S.rows u).isSome).length<=(snL (pt rs) ss).length:=by
  unfold snL
  exact qdq (c.filter _) fun x e=>by
   obtain ⟨a,b⟩:=yp.mp e;rw [yX] at b;exact yp.mpr ⟨a,b.1⟩
 have h:=qbM (f:=pt qs) (ss:=ss);have i:=qbM (f:=pt rs) (ss:=ss);have j:=g.cnt c;have l:=g'.cnt c;omega
theorem ug:FnScope ["web","free","words","place"] ["web"] (qg qb6):=fS
theorem u3:FnScope ["web","place","free"] ["web","place","free"] (qg zr):=fS
theorem Uo:FnScope ["web"] ["web"] (qg qb7):=fS
theorem Uw:FnScope ["web"] ["web"] (qg qdw):=fS
theorem Ux:FnScope ["web"] ["web"] (qg qdx):=fS
theorem uc:FnScope ["web","word","words"] ["web","word"] (qg jE):=fS
noncomputable def fnK (g:Str->V) (l:List Str):List (Key×V):=l.map fun s=>(.inr s,g s)
theorem qdy {g:Str->V}:∀ {l:List Str},y∉l->jG (fnK g l) (.inr y:Key)=none
 | [],_=>rfl
 | s::r,h=>by
  show jG ((.inr s,g s)::fnK g r) _=none;rw [qP (p:=((.inr s:Key),g s)) (fun e=>h (by rw [xk e];exact yN))];exact qdy fun z=>h (yz _ z)
theorem qaC {g:Str->V}:∀ {l:List Str},y∈l->jG (fnK g l) (.inr y:Key)=some (g y)
 | s::r,h=>by
  show jG ((.inr s,g s)::fnK g r) _=_;by_cases e:s=y
  ·subst e;exact q9 (p:=((.inr s:Key),g s)) rfl
  ·rw [qP (p:=((.inr s:Key),g s)) (fun z=>e (xk z))];exact qaC ((yv.mp h).resolve_left (Yh e))
theorem qeu {g:Str->V} (h:y∉l):zc (fnK g l) (.inr y:Key) (g y)=fnK g (l++[y]):=by
 rw [qap _ (qdy h)];unfold fnK;rw [yE];rfl
theorem qev (g:Str->V) (l:List Str):(fnK g l).length=l.length:=ya _
noncomputable def loQ (tps:List (Str×Str)) (ss:List Str):List Str:=ss.filter fun s=>decide (mo tps (del ss s).length (del ss s)=mo tps ss.length ss)
theorem re_lo (c:∀ a b,tA tps a b->a≠b) (d:ss.Nodup) (g:PGo ss tps qs) (F:Fn (tA tps) (pt qs) S ss):(ss.filter fun s=>(S.rows s).isSome)=loQ tps ss:=
 xm fun s e=>by
  rw [Yw,yQ,mx_loose c d g F e];exact Option.isSome_iff_ne_none
noncomputable def wdF (ss:List Str) (ns:List Nat) (a:List Str) (v:Str):Str:=if v∈a then "loose" else if (inB ss 0 (ns.getD (ss.idxOf v) 0)).any (fun o=>decide (o∈a))=true then "held" else "fast"
noncomputable def wdS (tps:List (Str×Str)) (ss:List Str) (ns:List Nat) (v:Str):V:=.str (wdF ss ns (loQ tps ss) v)
inductive spLo (cw:Addr) (vs:List V) (H:Hp) (Q:VK) (E:XK):Prop|mk (x:Addr) (ss:List Str) (ns:List Nat) (tps:List (Str×Str)) (_:vs=[.ref x]) (_:Wt cw H x ss ns tps) (_:∀ (l:Addr) (H':Hp),L2.Same H H'->H l=none->H' l=some (.lst ((loQ tps ss).map V.str))->Q (.ref l) H')
inductive spWf (cw:Addr) (vs:List V) (H:Hp) (Q:VK) (E:XK):Prop|mk (x l:Addr) (v:Str) (ss:List Str) (ns:List Nat) (fr:List Str) (_:vs=[.ref x,.str v,.ref l]) (_:WebAt cw H x ss ns) (_:v∈ss) (_:H l=some (.lst (fr.map V.str))) (_:∀ (H':Hp),L2.Same H H'->Q (.str (wdF ss ns fr v)) H')
inductive spSo (cw:Addr) (vs:List V) (H:Hp) (Q:VK) (E:XK):Prop|mk (x:Addr) (ss:List Str) (ns:List Nat) (tps:List (Str×Str)) (_:vs=[.ref x]) (_:Wt cw H x ss ns tps) (_:∀ (d:Addr) (H':Hp),L2.Same H H'->H d=none->H' d=some (.dK (fnK (wdS tps ss ns) ss))->Q (.ref d) H')
inductive spPw (cw:Addr) (vs:List V) (H:Hp) (Q:VK) (E:XK):Prop|mk (x:Addr) (wd:Str) (ss:List Str) (ns:List Nat) (tps:List (Str×Str)) (_:vs=[.ref x,.str wd]) (_:Wt cw H x ss ns tps) (_:∀ (l:Addr) (H':Hp),L2.Same H H'->H l=none->H' l=some (.lst ((ss.filter fun s=>decide (wdF ss ns (loQ tps ss) s=wd)).map V.str))->Q (.ref l) H')
inductive spHe (cw:Addr) (wd:Str) (vs:List V) (H:Hp) (Q:VK) (E:XK):Prop|mk (x:Addr) (ss:List Str) (ns:List Nat) (tps:List (Str×Str)) (_:vs=[.ref x]) (_:Wt cw H x ss ns tps) (_:∀ (l:Addr) (H':Hp),L2.Same H H'->H l=none->H' l=some (.lst ((ss.filter fun s=>decide (wdF ss ns (loQ tps ss) s=wd)).map V.str))->Q (.ref l) H')
theorem ok_lo (F:Fun K "loose" "loose" qb7 f fd) (T:Txt K mg cc cw) (O:DefOk P w K mg base CX0 14 "greatest" ["web"] (spGr cw)) (U:MakeOk P w K mg base CX0 10 (cc 9) "Forest" ["self","web","pairs"] (spFi cc cw)) (R:MethOk P w K mg base CX0 2 (cc 9) "reached" ["self"] (spFd2 cc cw)):FnOk P w K mg base CX0 15 f fd ["web"] (spLo cw):=by
 refine F.ok Uo fun _ _ _ _ H vs Q E o h=>?_
 ·obtain ⟨x,ss,ns,tps,rfl,W,q⟩:=h;refine ⟨_,(qe (qj (jj R (hmR o) (qaV U (hmR o) (qa (pv 0) (qa (qm O (hmR o) qz (qa (pv 0) qd)) qd)))))),?_⟩;ext;refine ⟨x,ss,ns,tps,rfl,W,fun l Z rs H1 s I b G=>?_⟩;have p:=W.same s;ext;refine fun y dx L m n=>qfp p I b L m n fun H0 X a S dn wt lo v g M=>?_;subst v;refine ⟨rfl,?_⟩;obtain ⟨A,z,i,_,_,_,j⟩:=id g.fo.obj;have d:=s.trans M;ext;refine ⟨a.x,A,z,rfl,i,j _ (by decide +kernel),?_⟩;ext;refine ⟨H0,a,ss,ns,rs,S,dn,wt,lo,_,rfl,g,W.wok.few,fun hl=>?_,fun hl l' u N C c=>?_⟩
  ·rcases g.en with ⟨e,_⟩ | ⟨t,r,e,_,_,D,J⟩
   ·exact absurd e hl
   ·obtain ⟨B,Y⟩:=qeq W.wok W.adj W.ok b D (by omega);have:=mx_le W.ir W.wok.nd b G B;omega
  ·subst hl;rw [re_lo W.ir W.wok.nd b (qfW g (p.wb b))] at c;exact q l' u (d.trans N) (d.free C) c
theorem ok_wf (F:Fun K "word_for" "word_for" zr f fd) (T:Txt K mg cc cw) (B:MethOk P w K mg base CX0 6 cw "beside" ["self","place"] (spBs cw)):FnOk P w K mg base CX0 7 f fd ["web","place","free"] (spWf cw):=by
 refine F.ok u3 fun _ _ _ _ H vs Q E t h=>?_
 ·obtain ⟨x,l,v,ss,ns,c,rfl,W,hv,hl,q⟩:=h;have u:=jV t;refine ⟨_,(qc (qN (qp (zw (K:=K) rfl u) (pv 1) (pv 2) (by with_unfolding_all rfl)) (qe (qj jh)) qv)
 (qe (qj (qc2 (qY (qu (k_any (K:=K) rfl rfl) rfl T.b_any boot_any (qa (ji (sc:=qg zr) (XN:=["web","place","free"]) ["other","free"] 1 [2] rfl rfl rfl (by decide +kernel) rfl (by decide +kernel)
  (qU (K:=K) rfl (qD B (hmR t) (pv 0) (qa (pv 1) qd))) (fun _ _ _ _=>(qq (i:=0) (show (["other","free"]:List Str).Nodup by decide +kernel) rfl (yK rfl))) jc
  (fun _ _ _ _=>zf)
  (fun _ _ _ _=>(jz (zw (K:=K) rfl u) (pv 0) (pv 1) (by with_unfolding_all rfl)))) qd))) jh jh)))),?_⟩
  obtain ⟨O,R,ol,S,D,_,_,_,hw⟩:=id W;have few:=hw.few;ext;refine qet hl ?_;ext;unfold wdF at q;refine qQ (fun h1=>?_) fun h1=>?_
  ·rw [yF (yk h1)] at q;ext;exact q H (Sr H)
  ·rw [yy (fun z=>h1 (yB z))] at q;ext;refine ⟨x,O,_,rfl,D,j8 (by decide +kernel),?_⟩;ext;obtain ⟨j,s⟩:=yf hv;rw [qcC hw.nd s] at q;refine ⟨x,ss,ns,v,j,rfl,W,s,fun H1 N m L=>?_⟩;generalize n:inB ss 0 (ns.getD j 0)=a at q ⊢;have C:a.length<=14:=by rw [<- n];exact yi (qaJ _ _ _) few
   have p:=qF N (o:=.lst (a.map V.str)) L;have d:upd H1 m (.lst (a.map V.str)) m=some (.lst (a.map V.str)):=qb;generalize upd H1 m (.lst (a.map V.str))=H2 at p d;refine .inl ⟨⟨_,.of d⟩,qZ (fun i ys J=>J=H2/\ys=((a.take i).map fun o=>decide (o∈c)).map V.bl) ⟨rfl,rfl⟩ (fun i ys J _ b=>by rw [b.1];exact .of d) (fun i y ys J M b=>?_) fun ys J b=>?_⟩
   ·obtain ⟨rfl,rfl⟩:=b;obtain ⟨U,r,rfl⟩:=zy M;have I:=(yc.mp r).1;ext;refine qag ?_;ext;refine qet (p _ _ hl) ?_;exact ⟨by rw [ya,ya,yP];exact qi (by omega),rfl,by rw [yM,r,yE,yE];rfl⟩
   ·obtain ⟨rfl,rfl⟩:=b;rw [show (a.map V.str).length=a.length from ya _,yS];refine ⟨by rw [ya,ya];exact Yc (qi (by omega)),fun g G=>?_⟩;ext;refine ⟨g,_,rfl,.of qb,?_⟩;rw [Kj];have eq:(a.any (id ∘ fun o=>decide (o∈c)))=a.any fun o=>decide (o∈c):=rfl;rw [eq];have A:=qF p (o:=.lst ((a.map fun o=>decide (o∈c)).map V.bl)) G;ext;refine qQ (fun e=>?_) fun e=>?_
    ·rw [yF e] at q;exact q _ A
    ·rw [yy e] at q;exact q _ A
theorem ok_so (F:Fun K "sorts" "sorts" qb6 f fd) (T:Txt K mg cc cw) (uL:DefOk P w K mg base CX0 15 "loose" ["web"] (spLo cw)) (Z:DefOk P w K mg base CX0 7 "word_for" ["web","place","free"] (spWf cw)) (Y:MethOk P w K mg base CX0 1 cw "places" ["self"] (spPls cw)):FnOk P w K mg base CX0 16 f fd ["web"] (spSo cw):=by
 refine F.ok ug fun _ _ _ _ H vs Q E p h=>?_
 ·obtain ⟨x,ss,ns,tps,rfl,W,q⟩:=h;have hu:=jV p;refine ⟨_,(qc (qk (i:=1) ug.nd rfl (yK rfl) (qm uL (hmR p) qz (qa (pv 0) qd)))
 (qc (qk (i:=2) ug.nd rfl (yK rfl) jM)
 (qc (jf yU rfl (qU (K:=K) rfl (jj Y (hmR p) (pv 0))) (qq (i:=3) ug.nd rfl (yK rfl))
 (qe (jv (qm Z (hmR p) qz (qa (pv 0) (qa (pv 3) (qa (pv 1) qd)))) (jy (pv 2) (pv 3) (jB hu)))))
 (qe (qj (pv 2)))))),?_⟩
  have few:=W.wok.few;ext;refine ⟨x,ss,ns,tps,rfl,W,fun l H1 U _ hl=>?_⟩;ext;intro d A;have s:=qF U (o:=.dK []) A;have R:upd H1 d (.dK []) d=some (.dK []):=qb;have c:H d=none:=U.free A;have l2:=(qF (Sr H1) (o:=.dK []) A) _ _ hl;generalize upd H1 d (.dK [])=H2 at s R l2;obtain ⟨wx,dd,ol,nn,hb,_⟩:=id W.web;ext;refine ⟨x,wx,_,rfl,s _ _ hb,j8 (by decide +kernel),?_⟩;ext;refine ⟨x,ss,ns,rfl,W.web.same s,fun m D=>?_⟩;have X:=qF s (o:=.lst (ss.map V.str)) D;have b:upd H2 m (.lst (ss.map V.str)) m=some (.lst (ss.map V.str)):=qb;have a:=(qF (Sr H2) (o:=.lst (ss.map V.str)) D) _ _ R;have r:=(qF (Sr H2) (o:=.lst (ss.map V.str)) D) _ _ l2;generalize upd H2 m (.lst (ss.map V.str))=H3 at X b a r;have M:m≠d:=fun z=>by rw [z,a] at b;cases b
  have L:l≠d:=fun z=>by rw [z,a] at r;cases r
  refine .inl ⟨⟨_,.of b⟩,qT (xs:=ss.map V.str) (fun i v J=>L2.Same H J/\J m=some (.lst (ss.map V.str))/\J l=some (.lst ((loQ tps ss).map V.str))/\∃ (O:Option V),v=[some (.ref x),some (.ref l),some (.ref d),O]/\J d=some (.dK (fnK (wdS tps ss ns) (ss.take i)))) ⟨X,b,r,_,rfl,a⟩ (fun i v J _ e=>.of e.2.1) (fun i y v J hy e=>?_) fun v J e=>?_⟩
  ·obtain ⟨u,S,I,O,rfl,j⟩:=e;obtain ⟨N,n,rfl⟩:=zy hy;have aa:=(yc.mp n).1;ext;refine ⟨x,l,N,ss,ns,_,rfl,W.web.same u,ye n,I,fun J2 t=>?_⟩;ext
   have G:N∉ss.take i:=fun z=>by
    obtain ⟨k,B⟩:=yf z;have C:k<i:=by have:=(yc.mp B).1;rw [yP] at this;omega
    rw [Xx C] at B;have:=qy W.wok.nd B n;omega
   refine .inr ⟨d,_,rfl,DPut.k (k:=Sum.inr N) (t _ _ j) (by rw [qev,yP];exact qi (by omega)),?_⟩;refine ⟨qaj (u.trans t) c,by rw [qf M];exact t _ _ S,by rw [qf L];exact t _ _ I,_,rfl,?_⟩;rw [qb,yM,n];exact congrArg (fun z=>some (HO.dK z)) (qeu (g:=wdS tps ss ns) G)
  ·obtain ⟨u,S,I,O,rfl,j⟩:=e;rw [show (ss.map V.str).length=ss.length from ya _,yS] at j;ext;exact q d J u c j
theorem ok_pw (F:Fun K "places_with" "places_with" jE f fd) (T:Txt K mg cc cw) (A:DefOk P w K mg base CX0 16 "sorts" ["web"] (spSo cw)) (B:MethOk P w K mg base CX0 1 cw "places" ["self"] (spPls cw)):FnOk P w K mg base CX0 17 f fd ["web","word"] (spPw cw):=by
 refine F.ok uc fun _ _ _ s H vs Q E t h=>?_
 ·obtain ⟨x,c,ss,ns,tps,rfl,W,q⟩:=h;have z:=jV t;refine ⟨_,(qc (qk (i:=2) uc.nd rfl (XT rfl) (qm A (hmR t) qz (qa (pv 0) qd)))
 (qe (qj (ji (sc:=qg jE) (XN:=["web","word","words"]) ["place","word","words"] 1 [1,2] rfl rfl rfl (by decide +kernel) rfl (by decide +kernel)
  (qU (K:=K) rfl (jj B (hmR t) (pv 0))) (fun _ _ _ _=>(qq (i:=0) (show (["place","word","words"]:List Str).Nodup by decide +kernel) rfl (yK rfl))) jc
  (fun _ _ _ _=>(jr (qp (zM (K:=K) rfl z) (qr (qt (K:=K) rfl z) (pv 2) (pv 0) (fun _ _=>rfl)) (pv 1) (qC _))))
  (fun _ _ _ _=>(pv 0)))))),?_⟩
  have few:=W.wok.few;ext;refine ⟨x,ss,ns,tps,rfl,W,fun d H1 j _ G=>?_⟩;have v:∀ s∈ss,jG (fnK (wdS tps ss ns) ss) (.inr s:Key)=some (.str (wdF ss ns (loQ tps ss) s)):=fun s M=>qaC M;generalize loQ tps ss=a at v q;obtain ⟨O,R,ol,S,D,_⟩:=id (W.web.same j);ext;refine ⟨x,O,_,rfl,D,j8 (by decide +kernel),?_⟩;ext;refine ⟨x,ss,ns,rfl,W.web.same j,fun m L=>?_⟩;have l:=qF (Sr H1) (o:=.lst (ss.map V.str)) L;have n:upd H1 m (.lst (ss.map V.str)) m=some (.lst (ss.map V.str)):=qb;generalize upd H1 m (.lst (ss.map V.str))=H2 at l n;refine .inl ⟨⟨_,.of n⟩,qZ (fun i ys J=>J=H2/\ys=((ss.take i).filter fun s=>decide (wdF ss ns a s=c)).map V.str) ⟨rfl,rfl⟩ (fun i ys J _ e=>by rw [e.1];exact .of n) (fun i y ys J N e=>?_) fun ys J e=>?_⟩
  ·obtain ⟨rfl,rfl⟩:=e;obtain ⟨b,p,rfl⟩:=zy N;have I:=(yc.mp p).1;have r:((ss.take i).filter fun s=>decide (wdF ss ns a s=c)).length<=i:=yi (yW _ _) (by rw [yP];omega);ext;refine qdI (l _ _ G) (v b (ye p)) ?_;ext;refine .inl (.inl (.inl ⟨rfl,rfl,?_⟩))
   have C:(if (false:Bool)=true then !eqV (.str (wdF ss ns a b)) (.str c) else eqV (.str (wdF ss ns a b)) (.str c))=decide (wdF ss ns a b=c):=by
    rw [yy (by decide)];show (wdF ss ns a b==c)=_;rw [Yw];simp
   rw [C];rw [yM,p,Yp];refine ⟨_,rfl,?_⟩;show if decide (wdF ss ns a b=c)=true then _ else _;refine qQ (fun h1=>?_) fun h1=>?_
   ·ext;refine ⟨by rw [ya];exact qi (by omega),rfl,?_⟩;show _=List.map V.str (_++[b].filter _);rw [yT,yF h1,yE];rfl
   ·refine ⟨rfl,?_⟩;show _=List.map V.str (_++[b].filter _);rw [yT,yy h1,YK,Yd]
  ·obtain ⟨rfl,rfl⟩:=e;rw [show (ss.map V.str).length=ss.length from ya _,yS];have r:(ss.filter fun s=>decide (wdF ss ns a s=c)).length<=ss.length:=yW _ _;refine ⟨by rw [ya];exact Yc (qi (by omega)),fun g u=>?_⟩;exact q g _ ((j.trans l).trans (qF (Sr J) u)) ((j.trans l).free u) qb
theorem ok_he (F:Fun K "held" "held" qdw f fd) (T:Txt K mg cc cw) (a:DefOk P w K mg base CX0 17 "places_with" ["web","word"] (spPw cw)):FnOk P w K mg base CX0 18 f fd ["web"] (spHe cw "held"):=by
 refine F.ok Uw fun _ _ _ _ H vs Q E b h=>?_
 ·obtain ⟨x,ss,ns,tps,rfl,W,q⟩:=h;refine ⟨_,(qe (qj (qm a (hmR b) qz (qa (pv 0) (qa jh qd))))),?_⟩;ext;exact ⟨x,_,ss,ns,tps,rfl,W,q⟩
theorem ok_fa (F:Fun K "fast" "fast" qdx f fd) (T:Txt K mg cc cw) (a:DefOk P w K mg base CX0 17 "places_with" ["web","word"] (spPw cw)):FnOk P w K mg base CX0 18 f fd ["web"] (spHe cw "fast"):=by
 refine F.ok Ux fun _ _ _ _ H vs Q E b h=>?_
 ·obtain ⟨x,ss,ns,tps,rfl,W,q⟩:=h;refine ⟨_,(qe (qj (qm a (hmR b) qz (qa (pv 0) (qa jh qd))))),?_⟩;ext;exact ⟨x,_,ss,ns,tps,rfl,W,q⟩
noncomputable def rmN (ss:List Str) (m:Nat):List Str:=ss.filter fun s=>m.testBit (ss.idxOf s)
theorem rmN_len (ss:List Str) (m:Nat):(rmN ss m).length<=ss.length:=yW _ _
theorem qcX (b:ss.Nodup) {k:Nat} (a:ss[k]?=some y):y∈rmN ss m↔m.testBit k=true:=by
 unfold rmN;rw [yp,qcC b a];exact ⟨fun z=>z.2,fun z=>⟨ye a,z⟩⟩
theorem qcY (c:ss.Nodup) {k:Nat} (b:ss[k]?=some y):rmN ss (j9 m (2 ^ k))=del (rmN ss m) y:=by
 unfold rmN del;rw [List.filter_filter];refine xm fun s d=>?_;rw [qdv,Y6];have a:ss[ss.idxOf s]?=some s:=by rw [yb (Yv d),YY]
 have e:decide (k=ss.idxOf s)=decide (s=y):=YA.mpr ⟨fun z=>by rw [<- z,b] at a;exact (ym a).symm,fun z=>by rw [z] at a;rw [z];exact qy c b a⟩;rw [e,Bool.and_comm]
theorem rmN_perm (b:ss.Nodup) {k:Nat} (d:ss[k]?=some y) (f:m.testBit k=true):(rmN ss m).Perm (y::rmN ss (j9 m (2 ^ k))):=by
 rw [qcY b d];have c:(rmN ss m).Nodup:=b.filter _;refine (List.perm_ext_iff_of_nodup c (yo.mpr ⟨fun z=>(mem_del.mp z).2 rfl,c.filter _⟩)).mpr fun a=>?_;rw [yv,mem_del];constructor
 ·intro h;by_cases e:a=y
  ·exact .inl e
  ·exact .inr ⟨h,e⟩
 ·rintro (e | e)
  ·rw [e];exact (qcX b d).mpr f
  ·exact e.1
section
variable {tps:List (Str×Str)}
theorem mo_perm (j:∀ a b,tA tps a b->a≠b) (g:l.Nodup) (p:l.Perm l') (h1:l.length<=n) (h:l'.length<=m):mo tps n l=mo tps m l':=by
 have d:∀ {l l':List Str} {n m:Nat},l.Nodup->l.Perm l'->l.length<=n->l'.length<=m->mo tps n l<=mo tps m l':=fun {l l' n m} g p h1 h=>by
  obtain ⟨f,i,c⟩:=qb5 j n h1 g;have:=qbz j m h (p.nodup_iff.mp g) (f:=f) ⟨i.sym,i.tie,fun a b e=>p.mem_iff.mp (i.inn a b e)⟩;have e:qaP f l=qaP f l':=by unfold qaP;exact (p.filter _).length_eq
  omega
 exact xF (d g p h1 h) (d (p.nodup_iff.mp g) p.symm h h1)
noncomputable def tbQ (tps:List (Str×Str)) (ss:List Str) (m:Nat):Nat:=mo tps ss.length (rmN ss m)
structure IsM (tps:List (Str×Str)) (ss:List Str) (nb:Nat->Bool) (r top:Nat) (v:Nat):Prop where
 lo:tbQ tps ss r<=v
 up:∀ o,o<top->nb o=true->1+tbQ tps ss (j9 r (2 ^ o))<=v
 at_:v=tbQ tps ss r\/∃ o,o<top/\nb o=true/\v=1+tbQ tps ss (j9 r (2 ^ o))
theorem tb_most (n:∀ a b,tA tps a b->a≠b) (d:ss.Nodup) {k v:Nat} {x:Str} (G:ss[k]?=some x) (F:m.testBit k=true) (A:Nat->Bool) (i:∀ o y,ss[o]?=some y->(A o=true↔((j9 m (2 ^ k)).testBit o=true/\tA tps x y))) (h:IsM tps ss A (j9 m (2 ^ k)) ss.length v):v=tbQ tps ss m:=by
 have E:(rmN ss m).Nodup:=d.filter _;have g:(rmN ss (j9 m (2 ^ k))).Nodup:=d.filter _;have w:=rmN_perm d G F;have hl:=rmN_len ss m;have p:(x::rmN ss (j9 m (2 ^ k))).length<=ss.length:=by rw [<- w.length_eq];exact hl
 have e:tbQ tps ss m=mo tps (ss.length-1+1) (x::rmN ss (j9 m (2 ^ k))):=by
  unfold tbQ;exact mo_perm n E w hl (by omega)
 have j:(rmN ss (j9 m (2 ^ k))).length<=ss.length-1:=by rw [yC] at p;omega
 have C:mo tps (ss.length-1) (rmN ss (j9 m (2 ^ k)))=tbQ tps ss (j9 m (2 ^ k)):=qfq n j (by omega) g;obtain ⟨t,u,l⟩:=qa1 (fun y=>1+mo tps (ss.length-1) (del (rmN ss (j9 m (2 ^ k))) y)) ((rmN ss (j9 m (2 ^ k))).filter (tB tps x)) (mo tps (ss.length-1) (rmN ss (j9 m (2 ^ k))))
 have s:∀ {o:Nat} {y:Str},ss[o]?=some y->mo tps (ss.length-1) (del (rmN ss (j9 m (2 ^ k))) y)=tbQ tps ss (j9 (j9 m (2 ^ k)) (2 ^ o)):=fun {o y} c=>by
  unfold tbQ;rw [qcY d c];exact qfq n (yi (qbt _ _) j) (yi (qbt _ _) (by omega)) (g.filter _)
 have D:mo tps (ss.length-1+1) (x::rmN ss (j9 m (2 ^ k)))=((rmN ss (j9 m (2 ^ k))).filter (tB tps x)).foldl (fun r y=>max r (1+mo tps (ss.length-1) (del (rmN ss (j9 m (2 ^ k))) y))) (mo tps (ss.length-1) (rmN ss (j9 m (2 ^ k)))):=rfl;rw [e,D];generalize ((rmN ss (j9 m (2 ^ k))).filter (tB tps x)).foldl (fun r y=>max r (1+mo tps (ss.length-1) (del (rmN ss (j9 m (2 ^ k))) y))) (mo tps (ss.length-1) (rmN ss (j9 m (2 ^ k))))=W at t u l;rw [C] at t l;apply xF
 ·rcases h.at_ with z | ⟨o,f,no,z⟩
  ·omega
  ·have c:ss[o]?=some ss[o]:=yb f;generalize ss[o]=y at c;obtain ⟨I,J⟩:=(i o y c).mp no;have:=u y (yp.mpr ⟨(qcX d c).mpr I,tB_iff.mpr J⟩)
   (try dsimp only at this)
   rw [s c] at this;omega
 ·rcases l with z | ⟨y,c,z⟩
  ·have:=h.lo;omega
  ·obtain ⟨B,H⟩:=yp.mp c;have q:y∈ss:=(yp.mp B).1;obtain ⟨o,f⟩:=yf q
   (try dsimp only at z)
   rw [s f] at z;have:=h.up o (yc.mp f).1 ((i o y f).mpr ⟨(qcX d f).mp B,tB_iff.mp H⟩);omega
end
theorem Ks:FnScope ["_law_many_here","_law_bits_here","_law_found","_law_room","_law_low","_law_rest","_law_most","_law_near_here","_law_other"] ["_law_many_here","_law_bits_here"] (qg qaD):=fS
theorem zQ (h:n<=5000):n<sizeLine:=Yo h (by decide)
theorem qfs (m:ss.Nodup) {TI:List (Nat×Nat)} (g:TJ ss.length TI) {x:Str} (a:ss[i]?=some x) (b:ss[j]?=some y):tA (TI.map (nmP ss)) x y↔((i,j)∈TI\/(j,i)∈TI):=by
 have c:∀ {i j:Nat} {x y:Str},ss[i]?=some x->ss[j]?=some y->((x,y)∈TI.map (nmP ss)↔(i,j)∈TI):=fun {i j x y} a b=>by
  constructor
  ·intro h;obtain ⟨q,n,e⟩:=Yb.mp h;unfold nmP at e
   injection e with e1 e2
   have l:=g.2.1 q n;have d:=qbA (ss:=ss) (i:=q.1) (by omega);have f:=qbA (ss:=ss) (i:=q.2) (by omega);rw [e1] at d;rw [e2] at f;have:=qy m d a;have:=qy m f b;have:q=(i,j):=Xd (by assumption) (by assumption);rw [<- this];exact n
  ·intro h;refine Yb.mpr ⟨(i,j),h,?_⟩;have l:=g.2.1 _ h;dsimp only at l;have d:=qbA (ss:=ss) (i:=i) (by omega);have f:=qbA (ss:=ss) (i:=j) (by omega);rw [a] at d;rw [b] at f;unfold nmP;rw [<- ym d,<- ym f]
 unfold tA;rw [c a b,c b a]
theorem offN_lt {k:Nat} (h:m.testBit k=true):j9 m (2 ^ k)<m:=by
 unfold j9
 have h1:m &&& 2 ^ k=2 ^ k:=by
  apply kj;intro i;rw [Xg,Y6];by_cases e:k=i
  ·subst e;rw [h];simp
  ·simp [e]
 have a:m &&& 2 ^ k<=m:=Nat.and_le_left;have b:=XB k;omega
theorem tb_zero (tps:List (Str×Str)) (ss:List Str):tbQ tps ss 0=0:=by
 unfold tbQ rmN;have:(ss.filter fun s=>(0:Nat).testBit (ss.idxOf s))=[]:=List.filter_eq_nil_iff.mpr fun s _=>by rw [Nat.zero_testBit];decide
 rw [this];cases ss.length<;>rfl
section
variable {tps:List (Str×Str)} {ss:List Str} {nb:Nat->Bool} {r top v:Nat}
theorem IsM.skip (h:IsM tps ss nb r top v) (e:¬ nb top=true):IsM tps ss nb r (top+1) v:=
 ⟨h.lo,fun o f d=>by
  by_cases z:o=top
  ·rw [z] at d;exact absurd d e
  ·exact h.up o (by omega) d,by
  rcases h.at_ with z | ⟨o,a,b,c⟩
  ·exact .inl z
  ·exact .inr ⟨o,by omega,b,c⟩⟩
theorem IsM.take (h:IsM tps ss nb r top v) (e:nb top=true):IsM tps ss nb r (top+1) (max v (1+tbQ tps ss (j9 r (2 ^ top)))):=
 ⟨yi h.lo (Kb _ _),fun o f d=>by
  by_cases z:o=top
  ·rw [z];exact Nat.le_max_right _ _
  ·exact yi (h.up o (by omega) d) (Kb _ _),by
  by_cases z:v<=1+tbQ tps ss (j9 r (2 ^ top))
  ·exact .inr ⟨top,by omega,e,Nat.max_eq_right z⟩
  ·rw [Nat.max_eq_left (by omega)];rcases h.at_ with z | ⟨o,a,b,c⟩
   ·exact .inl z
   ·exact .inr ⟨o,by omega,b,c⟩⟩
end
noncomputable def tbL (tps:List (Str×Str)) (ss:List Str) (m:Nat):List Nat:=(List.range m).map (tbQ tps ss)
theorem qe8 (h:i<m):(tbL tps ss m).getD i 0=tbQ tps ss i:=by
 unfold tbL;rw [Yr,yd,kz h];rfl
theorem qcZ (tps:List (Str×Str)) (ss:List Str) (m:Nat):(tbL tps ss m).length=m:=by unfold tbL;rw [ya,YS]
theorem tbL_succ (tps:List (Str×Str)) (ss:List Str) (m:Nat):tbL tps ss (m+1)=tbL tps ss m++[tbQ tps ss m]:=by unfold tbL;rw [Xf,yE];rfl
inductive spTbQ (vs:List V) (H:Hp) (Q:VK) (E:XK):Prop|mk (lb:Addr) (ss:List Str) (TI:List (Nat×Nat)) (bs:List Nat) (_:vs=[.int (ss.length:Int),.ref lb]) (_:ss.length<=12) (_:ss.Nodup) (_:TJ ss.length TI) (_:H lb=some (.lst (zG bs))) (_:BtJ ss.length TI bs) (_:∀ (l:Addr) (H':Hp),L2.Same H H'->H l=none->H' l=some (.lst (zG (tbL (TI.map (nmP ss)) ss (2 ^ ss.length))))->Q (.ref l) H')
theorem ok_tbQ (F:Fun K "_law_table" "_law_table" qaD f fd) (T:Txt K mg cc cw):FnOk P w K mg base CX0 1 f fd ["_law_many_here","_law_bits_here"] spTbQ:=by
 refine F.ok Ks fun _ _ _ _ H vs Q E hr h=>?_
 ·obtain ⟨lb,ss,TI,bs,rfl,ah,hn,hj,ae,O,q⟩:=h;have Y:=jV hr;obtain ⟨tps,s⟩:∃ tps,tps=TI.map (nmP ss):=⟨_,rfl⟩;rw [<- s] at q;have ao:2 ^ ss.length<=4096:=kh (by decide) ah;have p0:0<2 ^ ss.length:=XB _;have ag:∀ {i j:Nat} {x y:Str},ss[i]?=some x->ss[j]?=some y->(tA tps x y↔qcG bs i j=true):=fun hx Z=>by rw [s,qfs hn hj hx Z];exact (O.2.2 _ _).symm
  have hi:∀ a b,tA tps a b->a≠b:=fun a b h e=>by
   subst e;rw [s] at h;rcases h with h | h <;>
   ·obtain ⟨q,hq,e⟩:=Yb.mp h;unfold nmP at e
    injection e with e1 e2
    have l:=hj.2.1 q hq;have z1:=qbA (ss:=ss) (i:=q.1) (by omega);have z2:=qbA (ss:=ss) (i:=q.2) (by omega);rw [e1] at z1;rw [e2] at z2;have:=qy hn z1 z2;omega
  refine ⟨_,(qc (qk (i:=2) Ks.nd rfl (yK rfl) (qJ (qa qh qd)))
 (qc (jf yU rfl (qba rfl T.b_range (qa qh (qa (qx qao qh (pv 0)) qd))) (qq (i:=3) Ks.nd rfl (yK rfl))
 (qc (qk (i:=4) Ks.nd rfl (yK rfl) qh)
 (qc (qaR yU (qp (zM (K:=K) rfl Y) (qx qaM (qx qc5 (pv 3) (pv 4)) qh) qh (qC _))
 (qe (qk (i:=4) Ks.nd rfl (yK rfl) (qx (jU (K:=K) rfl) (pv 4) qh))))
 (qc (qk (i:=5) Ks.nd rfl (yK rfl) (qx qaM (pv 3) (qbb qdM (qx qao qh (pv 4)))))
 (qc (qk (i:=6) Ks.nd rfl (yK rfl) (qr (qt (K:=K) rfl Y) (pv 2) (pv 5) (fun _ _=>rfl)))
 (qc (qk (i:=7) Ks.nd rfl (yK rfl) (qx qaM (pv 5) (qr (qt (K:=K) rfl Y) (pv 1) (pv 4) (fun _ _=>rfl))))
 (qc (jf yU rfl (qba rfl T.b_range (qa (qx (jU (K:=K) rfl) (pv 4) qh) (qa (pv 0) qd))) (qq (i:=8) Ks.nd rfl (yK rfl))
 (qe (qN (qp (zM (K:=K) rfl Y) (qx qaM (qx qc5 (pv 7) (pv 8)) qh) qh (qC _)) (qe (qk (i:=6) Ks.nd rfl (yK rfl) (qu (qbc rfl) rfl T.b_max boot_max (qa (pv 6) (qa (qx (jU (K:=K) rfl) qh (qr (qt (K:=K) rfl Y) (pv 2) (qx qaM (pv 5) (qbb qdM (qx qao qh (pv 8)))) (fun _ _=>rfl))) qd))))) qv)))
 (qe (qI (qbI (K:=K) rfl yR Ye Yg qM (pv 2) (qa (pv 6) qd)))))))))))
 (qe (qj (pv 2))))),?_⟩
  ext;refine ⟨by show 1<=sizeLine;decide,fun l hl=>?_⟩;have s0:=qF (Sr H) (o:=.lst [.int 0]) hl
  have e0:upd H l (.lst [.int 0]) l=some (.lst (zG (tbL tps ss 1))):=by
   rw [qb];unfold tbL zG;rw [Xf];simp [tb_zero]
  generalize upd H l (.lst [.int 0])=H0 at s0 e0;ext;refine qfr ?_;ext;refine vI ⟨by omega,by omega,by decide⟩ ?_;ext;have aa:(1*2 ^ ((ss.length:Int)).toNat:Int)=((2 ^ ss.length:Nat):Int):=by rw [yY,Kg,Xe];rfl
  rw [aa];refine ⟨1,_,rfl,⟨by decide,by decide,by omega,by omega⟩,j0 (fun i t J=>∃ x3 x4 x5 x6 x7 M,t=[some (.int (ss.length:Int)),some (.ref lb),some (.ref l),x3,x4,x5,x6,x7,M]/\L2.Same H J/\J l=some (.lst (zG (tbL tps ss (i+1))))) ⟨none,none,none,none,none,none,rfl,s0,e0⟩ (fun i t J ak I=>?_) fun t J I=>?_⟩
  ·obtain ⟨x3,x4,x5,x6,x7,M,rfl,sJ,u⟩:=I;obtain ⟨m,hm⟩:∃ m,m=i+1:=⟨_,rfl⟩;have em:(1:Int)+(i:Int)=(m:Int):=by omega
   rw [em];rw [<- hm] at u ⊢;have al:0<m:=by omega
   have am:m<2 ^ ss.length:=by omega
   have R:=sJ _ _ ae;ext;obtain ⟨Wv,A⟩:∃ Wv:Nat->L2.St->Hp->Prop,Wv=fun d t J'=>J'=J/\∃ g:Nat,t=[some (.int (ss.length:Int)),some (.ref lb),some (.ref l),some (.int (m:Int)),some (.int (g:Int)),x5,x6,x7,M]/\d=ss.length-g/\∀ j,j<g->m.testBit j=false:=⟨_,rfl⟩;refine ⟨Wv,⟨_,by rw [A];exact ⟨rfl,0,rfl,rfl,fun j h=>by omega⟩⟩,fun d t J' N=>?_⟩;rw [A] at N;obtain ⟨rfl,g,rfl,hd,n⟩:=N
   have S:g<ss.length:=by
    apply YJ;intro h;obtain ⟨j,C⟩:=Nat.exists_testBit_of_ne_zero (x:=m) (by omega);by_cases ad:j<g
    ·rw [n j ad] at C;cases C
    ·have:2 ^ ss.length<=m:=yi (kh (by decide) (show ss.length<=j by omega)) (Nat.ge_two_pow_of_testBit C);omega
   ext;refine vI (by omega) ?_;ext;refine qcW ?_;rw [bit0_nat];refine ⟨_,rfl,?_⟩
   cases hb:m.testBit g with
   | false =>
    refine qag ⟨fun ai H'=>∃ m',m'<d/\Wv m' ai H',fun _ _ z=>z,?_⟩;ext;refine ⟨ss.length-(g+1),by omega,?_⟩;rw [A];refine ⟨rfl,g+1,by simp,rfl,fun j h=>?_⟩;by_cases e:j=g
    ·rw [e];exact hb
    ·exact n j (by omega)
   | true =>
    refine yq ?_;obtain ⟨x,hx⟩:∃ x,ss[g]?=some x:=⟨_,yb S⟩;obtain ⟨r,p⟩:∃ r,r=j9 m (2 ^ g):=⟨_,rfl⟩;have X:r<m:=by rw [p];exact offN_lt hb
    have pw:∀ k:Nat,(1*2 ^ ((k:Int)).toNat:Int)=((2 ^ k:Nat):Int):=fun k=>by rw [yY,Kg,Xe];rfl
    ext;refine vI ⟨by omega,by omega,by decide⟩ ?_;ext;refine vU ?_;ext;rw [pw,qam,<- p];ext
    have tg:∀ k,k<m->(zG (tbL tps ss m))[k]?=some (.int (tbQ tps ss k:Nat)):=fun k hk=>by
     rw [jO (by rw [qcZ];exact hk),qe8 hk]
    refine .inl (za u (qo (tg r X)) ?_);ext;refine .inl (za R (qo (jO (by rw [O.1];exact S))) ?_);ext;rw [and_nat];obtain ⟨L,D⟩:∃ L,L=r &&& bs.getD g 0:=⟨_,rfl⟩;rw [<- D]
    have af:∀ o y,ss[o]?=some y->(L.testBit o=true↔(r.testBit o=true/\tA tps x y)):=fun o y Z=>by
     rw [D,Xg,yX,ag hx Z];rfl
    have U:∀ o,o<=g->L.testBit o=false:=fun o ho=>by
     rw [D,Xg,p,qdv,Y6];by_cases e:o=g
     ·subst e;simp
     ·rw [n o (by omega)];rfl
    ext;refine qfr ?_;ext;refine ⟨_,_,rfl,⟨by omega,by omega,by omega,by omega⟩,j0 (fun i t G=>G=J'/\∃ (v:Nat) (M:Option V),t=[some (.int (ss.length:Int)),some (.ref lb),some (.ref l),some (.int (m:Int)),some (.int (g:Int)),some (.int (r:Int)),some (.int (v:Int)),some (.int (L:Int)),M]/\IsM tps ss (fun o=>L.testBit o) r (g+1+i) v) ⟨rfl,_,_,rfl,yh _,(fun o ho h=>by rw [U o (by omega)] at h;cases h),.inl rfl⟩ (fun i t G aj I=>?_) fun t G I=>?_⟩
    ·obtain ⟨rfl,v,y8,rfl,hv⟩:=I;obtain ⟨o,ho⟩:∃ o,o=g+1+i:=⟨_,rfl⟩;have eo:(g:Int)+1+(i:Int)=(o:Int):=by omega
     have an:o<ss.length:=by omega
     rw [eo];rw [<- ho] at hv;have ac:g+1+(i+1)=o+1:=by omega
     rw [ac];ext;refine vI (by omega) ?_;ext;refine qcW ?_;rw [qbp];ext;refine qQ (fun B=>?_) fun B=>⟨rfl,v,_,rfl,hv.skip B⟩;ext;refine vI ⟨by omega,by omega,by decide⟩ ?_;ext;refine vU ?_;ext;rw [pw,qam];have W:j9 r (2 ^ o)<m:=Yo (by unfold j9;omega) X;refine .inl (za u (qo (tg _ W)) ?_);ext;refine ⟨_,_,rfl,?_⟩;refine ⟨rfl,max v (1+tbQ tps ss (j9 r (2 ^ o))),some (.int (o:Int)),?_,hv.take B⟩;have e:((max v (1+tbQ tps ss (j9 r (2 ^ o))):Nat):Int)=if 1+(tbQ tps ss (j9 r (2 ^ o)):Int)>(v:Int) then 1+(tbQ tps ss (j9 r (2 ^ o)):Int) else (v:Int):=by split<;>omega
     rw [e];rfl
    ·obtain ⟨rfl,v,y8,rfl,hv⟩:=I;have et:g+1+((ss.length:Int)-((g:Int)+1)).toNat=ss.length:=by omega
     rw [et,p] at hv;have ev:=tb_most hi hn hx hb (fun o=>L.testBit o) (fun o y Z=>by rw [<- p];exact af o y Z) hv;ext;refine ⟨.inl ⟨rfl,_,.of u⟩,?_⟩;ext;refine ⟨l,_,_,rfl,rfl,u,by unfold zG;rw [ya,qcZ];exact zQ (by omega),?_⟩;refine ⟨_,_,_,_,_,_,rfl,fun c o z=>?_,?_⟩
     ·rw [qf (fun z'=>by rw [z',hl] at z;cases z)];exact sJ c o z
     ·rw [qb,tbL_succ,ev];unfold zG;rw [yE];rfl
  ·obtain ⟨x3,x4,x5,x6,x7,M,rfl,sJ,u⟩:=I;ext;have e:((2 ^ ss.length:Nat)-1:Int).toNat+1=2 ^ ss.length:=by omega
   rw [e] at u;exact q l J sJ hl u
theorem uH:FnScope ["web","place"] ["web","place"] (qg zR):=fS
def BdT (H:Hp) (v:V):Prop:=∃ d,Dat H v d/\Shw d 400 5/\∀ x,v=.str x->(x.length<1\/6<x.length)/\x.length<=1000
theorem BdT.same {v:V} (h:BdT H v) (s:L2.Same H H'):BdT H' v:=h.elim fun d h=>⟨d,h.1.same s,h.2⟩
theorem dat_ty {v:V} {d:PyData} (h:Dat H v d):(∃ x,v=.str x)\/∃ t∈["NoneType","bool","int","str","list","tuple","dict"],TyOf K H v (.type t)/\qgC t "str"=false:=by
 cases h with
 | non=>exact .inr ⟨_,by simp,.non,by decide⟩
 | bl b=>exact .inr ⟨_,by simp,.bl b,by decide⟩
 | int i=>exact .inr ⟨_,by simp,.int i,by decide⟩
 | str x=>exact .inl ⟨x,rfl⟩
 | lst e _=>exact .inr ⟨_,by simp,.lst e,by decide⟩
 | tup e _=>exact .inr ⟨_,by simp,.tup e,by decide⟩
 | dnil e=>exact .inr ⟨_,by simp,.dK e,by decide⟩
inductive spNameB (vs:List V) (H:Hp) (Q:VK) (E:XK):Prop|mk (v:_) (_:vs=[v]) (_:BdT H v) (_:Q (.bl false) H)
inductive spPlaceB (vs:List V) (H:Hp) (Q:VK) (E:XK):Prop|mk (d:Addr) (v:V) (_:vs=[.ref d,v]) (_:BdT H v) (_:Q (.bl false) H)
inductive spHasB (cw:Addr) (vs:List V) (H:Hp) (Q:VK) (E:XK):Prop|mk (x:Addr) (ss:List Str) (ns:List Nat) (v:V) (_:vs=[.ref x,v]) (_:WebAt cw H x ss ns) (_:BdT H v) (_:Q (.bl false) H)
inductive spNumB (cc:Nat->Addr) (cw:Addr) (vs:List V) (H:Hp) (u2_:VK) (E:XK):Prop|mk (x:Addr) (ss:List Str) (ns:List Nat) (v:V) (_:vs=[.ref x,v]) (_:WebAt cw H x ss ns) (_:BdT H v) (_:Rz cc H E (0,v))
inductive spStf (cw:Addr) (vs:List V) (H:Hp) (Q:VK) (E:XK):Prop|mk (x:Addr) (ss:List Str) (ns:List Nat) (tps:List (Str×Str)) (v:Str) (_:vs=[.ref x,.str v]) (_:Wt cw H x ss ns tps) (_:v∈ss) (_:∀ (H':Hp),L2.Same H H'->Q (wdS tps ss ns v) H')
theorem ok_nameB (F:Fun K "is_name" "is_name" j6 f fd) (T:Txt K mg cc cw):FnOk P w K mg base CX0 1 f fd ["thing"] spNameB:=by
 refine F.ok uC fun _ _ _ _ H vs Q E j h=>?_
 ·obtain ⟨v,rfl,⟨d,b,_,g⟩,q⟩:=h;refine ⟨_,(qc (qN (PW.pt (qbQ (q8 (qY (qu (qaw (K:=K) rfl) rfl T.b_isinstance YR (qa (pv 0) (qa (jT (v:=.ty "str") rfl T.b_str boot_str rfl) qd))))) (qaL (q8 (qc8 qeP qeP qh (qu (qai (K:=K) rfl) rfl T.b_len xJ (qa (pv 0) qd)) (qaT rfl T.g_LONGEST_NAME)))))) (qe (qj jF)) qv)
 (qe (qj (qu (qeF (K:=K) rfl rfl) rfl T.b_all boot_all (qa (ji (sc:=qg j6) (XN:=["thing"]) ["sign"] 1 [] rfl rfl rfl (by decide +kernel) rfl (by decide +kernel)
  (qU (K:=K) rfl (pv 0)) (fun _ _ _ _=>(qq (i:=0) (show (["sign"]:List Str).Nodup by decide +kernel) rfl (yK rfl))) jc
  (fun _ _ _ _=>zf)
  (fun _ _ _ _=>(qc7 qeP qeP jh (pv 0) jh))) qd))))),?_⟩
  ext;rcases dat_ty (K:=K) b with ⟨x,rfl⟩ | ⟨t,e,ty,c⟩
  ·obtain ⟨h1,a⟩:=g x rfl;refine qbx (.inl (.str x)) rfl (zK K "str" (by simp) "str" (by simp)) ?_;ext;refine yq ?_;ext;refine qfM (yi a (by decide)) ?_;ext;refine qQ (fun h1=>?_) fun h1=>?_
   ·have:=yk h1;ext;refine qQ (fun _=>?_) fun a=>?_
    ·ext;exact q
    ·simp only [Xn,XG,Classical.not_not] at a;omega
   ·refine ⟨false,rfl,qag ?_⟩;ext;exact q
  ·refine qbx (.inl ty) rfl (zK K t e "str" (by simp)) ?_;rw [c];ext;refine qag ?_;ext;exact q
theorem ok_placeB (F:Fun K "is_place" "is_place" zo f fd) (b:DefOk P w K mg base CX0 1 "is_name" ["thing"] spNameB):FnOk P w K mg base CX0 2 f fd ["numbers","thing"] spPlaceB:=by
 refine F.ok uv fun _ _ _ _ H vs Q E a h=>?_
 ·obtain ⟨d,v,rfl,c,q⟩:=h;have e:=jV a;refine ⟨_,(qe (qj (qbC (qm b (hmR a) qz (qa (pv 1) qd)) (qbB (jz (zw (K:=K) rfl e) (pv 1) (pv 0) (by with_unfolding_all rfl)))))),?_⟩;ext;refine ⟨v,rfl,c,?_⟩;ext;exact qQ (fun h=>by cases h) fun _=>q
theorem ok_hasB (F:Fun K "has_place" "Web.has_place" jk f fd) (T:Txt K mg cc cw) (a:DefOk P w K mg base CX0 2 "is_place" ["numbers","thing"] spPlaceB):FnOk P w K mg base CX0 3 f fd ["self","thing"] (spHasB cw):=by
 refine F.ok K3 fun _ _ _ _ H vs Q E c h=>?_
 ·obtain ⟨x,ss,ns,v,rfl,⟨dx,d,ol,n,e,g,j,i,hw⟩,b,q⟩:=h;refine ⟨_,(qe (qj (qm a (hmR c) qz (qa (qA (K:=K) rfl (pv 0) rfl) (qa (pv 1) qd))))),?_⟩;ext;refine .inl ⟨x,cw,dx,_,.ref d,rfl,e,T.wcl,T.wn,jK,?_⟩;ext;exact ⟨d,v,rfl,b,q⟩
theorem ok_numB (F:Fun K "number_of" "Web.number_of" jl f fd) (T:Txt K mg cc cw) (c:MethOk P w K mg base CX0 3 cw "has_place" ["self","thing"] (spHasB cw))
  (e:XMakeOk P w K mg base 2 (cc 0) "NoPlace" ["self","found"] (spX (cc 0) (qfw 0))):FnOk P w K mg base (CX1 P w) 4 f fd ["self","place"] (spNumB cc cw):=by
 refine F.ok1 K4 (fun vs H Q E h=>?_) fun _ _ _ _ H vs Q E a h=>?_
 ·cases h;subst_vars;rfl
 ·obtain ⟨x,ss,ns,v,rfl,b,g,hz⟩:=h;have i:=jV a;obtain ⟨dx,d,ol,n,j,l,o,m,hw⟩:=id b;refine ⟨_,(qc (qN (q8 (qY (qD c (hmR a) (pv 0) (qa (pv 1) qd)))) (qe (k_raise (K:=K) rfl qdk (pe_xm e (hmR a) (qa (pv 1) qd)))) qv)
 (qe (qj (qr (qt (K:=K) rfl i) (qA (K:=K) rfl (pv 0) rfl) (pv 1) (fun _ _=>rfl))))),?_⟩
  ext;refine ⟨x,dx,_,rfl,j,j8 (by decide +kernel),?_⟩;ext;refine ⟨x,ss,ns,v,rfl,b,g,?_⟩;ext;refine qag ?_;ext;exact raise_done (T.xat 0 (by decide)) hz
theorem ok_stf (F:Fun K "sort_of" "sort_of" zR f fd) (T:Txt K mg cc cw) (e:MethOk P w K mg base CX0 4 cw "number_of" ["self","place"] (spNum cw)) (c:DefOk P w K mg base CX0 16 "sorts" ["web"] (spSo cw)):FnOk P w K mg base CX0 17 f fd ["web","place"] (spStf cw):=by
 refine F.ok uH fun _ _ _ _ H vs Q E a h=>?_
 ·obtain ⟨x,ss,ns,tps,v,rfl,W,hv,q⟩:=h;have m:=jV a;obtain ⟨o,p,ol,r,i,_⟩:=id W.web;obtain ⟨j,g⟩:=yf hv;refine ⟨_,(qc (qI (qD e (hmR a) (pv 0) (qa (pv 1) qd)))
 (qe (qj (qr (qt (K:=K) rfl m) (qm c (hmR a) qz (qa (pv 0) qd)) (pv 1) (fun _ _=>rfl))))),?_⟩
  ext;refine ⟨x,o,_,rfl,i,j8 (by decide +kernel),?_⟩;ext;refine ⟨x,ss,ns,v,j,rfl,W.web,g,fun H1 b=>?_⟩;ext;refine ⟨x,ss,ns,tps,rfl,W.same b,fun d H2 n _ l=>?_⟩;ext;exact qdI l (qaC hv) (q H2 (b.trans n))
theorem ok_stfB (F:Fun K "sort_of" "sort_of" zR f fd) (T:Txt K mg cc cw) (e:MethOk P w K mg base (CX1 P w) 4 cw "number_of" ["self","place"] (spNumB cc cw)) (c:DefOk P w K mg base CX0 16 "sorts" ["web"] (spSo cw)):FnOk P w K mg base (CX1 P w) 17 f fd ["web","place"] (spNumB cc cw):=by
 refine F.ok1 uH (fun vs H Q E h=>?_) fun _ _ _ _ H vs Q E a h=>?_
 ·cases h;subst_vars;rfl
 ·obtain ⟨x,ss,ns,v,rfl,b,g,hz⟩:=h;have i:=jV a;obtain ⟨dx,d,ol,n,j,l,o,m,hw⟩:=id b;refine ⟨_,(qc (qI (pe_methS e (hmR a) qdk (pv 0) (qa (pv 1) qd)))
 (qe (qj (qr (qt (K:=K) rfl i) (qm c (hmR a) qz (qa (pv 0) qd)) (pv 1) (fun _ _=>rfl))))),?_⟩
  ext;refine ⟨x,dx,_,rfl,j,j8 (by decide +kernel),?_⟩;ext;exact ⟨x,ss,ns,v,rfl,b,g,hz⟩
theorem uN:FnScope ["_law_many_here","_law_bits_here","_law_table_here","_law_room"] ["_law_many_here","_law_bits_here","_law_table_here"] (qg qaE):=fS
theorem uO:FnScope ["_law_bits_here","_law_free_here","_law_found"] ["_law_bits_here","_law_free_here"] (qg qaf):=fS
theorem K1:FnScope ["_law_many_here","_law_bits_here","_law_table_here","_law_free_here","_law_near_here"] ["_law_many_here","_law_bits_here"] (qg zS):=fS
noncomputable def frI (tps:List (Str×Str)) (ss:List Str) (n:Nat):List Nat:=(List.range n).filter fun k=>decide (tbQ tps ss (j9 (2 ^ ss.length-1) (2 ^ k))=tbQ tps ss (2 ^ ss.length-1))
noncomputable def nrI (bs a:List Nat) (k:Nat):Bool:=!decide (k∈a)&&!(a.filter fun j=>qcG bs k j).isEmpty
theorem qdz (p:Nat->Bool) (i:Nat):(List.range (i+1)).filter p=(List.range i).filter p++(if p i=true then [i] else []):=by
 rw [Xf,Yp,yT,YK]
theorem qbu (p:Nat->Bool) (i:Nat):((List.range i).filter p).length<=i:=yi (yW _ _) (by rw [YS];exact yh _)
theorem ne_nilI {l z:Addr} {xs:List Nat} {Q:VK} (hl:H l=some (.lst (xs.map iV))) (hz:H z=some (.lst [])) (q:Q (.bl (!xs.isEmpty)) H):qfg K true (.ref l) (.ref z) H Q:=by
 cases xs with
 | nil=>exact .inr (.inl ⟨l,z,true,1,rfl,rfl,by decide,EqT.lst (n:=0) (e:=fun _=>true) (SqL.of hl) (SqL.of hz) rfl fun j x y h=>by (simp at h),q⟩)
 | cons x r=>exact .inr (.inl ⟨l,z,false,1,rfl,rfl,by decide,EqT.lstL (SqL.of hl) (SqL.of hz) (by simp),q⟩)
theorem qb8 {c:Bool} {g:Addr} {a:List Nat} {k:Nat} {Q:VK} (h:H g=some (.lst (a.map iV))) (q:Q (.bl (if c=true then !decide (k∈a) else decide (k∈a))) H):qex K c (iV k) (.ref g) H Q:=by
 classical
 refine .inr (.inr ⟨g,a.map iV,fun z=>eqV z (iV k),1,rfl,SqL.of h,by decide,fun z hz=>?_,?_⟩)
 ·obtain ⟨j,d,rfl⟩:=Yb.mp hz;exact .flat rfl rfl
 ·have e:(a.map iV).any (fun z=>eqV z (iV k))=decide (k∈a):=by
   rw [Yw,YZ,yQ];constructor
   ·rintro ⟨z,hz,e⟩;obtain ⟨j,d,rfl⟩:=Yb.mp hz;have b:=zl (j:Int) (k:Int);rw [yy (by decide)] at b;rw [b,yQ] at e;have:j=k:=by omega
    exact this ▸ d
   ·intro f;refine ⟨iV k,Yb.mpr ⟨k,f,rfl⟩,?_⟩;have b:=zl (k:Int) (k:Int);rw [yy (by decide)] at b;rw [b];exact yB rfl
  rw [e];exact q
theorem pwI (k:Nat):(1*2 ^ ((k:Int)).toNat:Int)=((2 ^ k:Nat):Int):=by rw [yY,Kg,Xe];rfl
inductive spFeQ (vs:List V) (H:Hp) (Q:VK) (E:XK):Prop|mk (lb lt:Addr) (ss:List Str) (tps:List (Str×Str)) (_:vs=[.int (ss.length:Int),.ref lb,.ref lt]) (_:ss.length<=12) (_:H lt=some (.lst (zG (tbL tps ss (2 ^ ss.length))))) (_:∀ (l:Addr) (H':Hp),L2.Same H H'->H l=none->H' l=some (.lst ((frI tps ss ss.length).map iV))->Q (.ref l) H')
inductive spNrQ (vs:List V) (H:Hp) (Q:VK) (E:XK):Prop|mk (lb lf:Addr) (bs fr:List Nat) (_:vs=[.ref lb,.ref lf]) (_:bs.length<=14) (_:fr.length<=14) (_:H lb=some (.lst (zG bs))) (_:H lf=some (.lst (fr.map iV))) (_:∀ (l:Addr) (H':Hp),L2.Same H H'->H l=none->H' l=some (.lst (((List.range bs.length).filter (nrI bs fr)).map iV))->Q (.ref l) H')
noncomputable def wdI (tps:List (Str×Str)) (ss:List Str) (bs:List Nat) (k:Nat):Str:=if k∈frI tps ss ss.length then "loose" else if nrI bs (frI tps ss ss.length) k=true then "held" else "fast"
inductive spWdQ (vs:List V) (H:Hp) (Q:VK) (E:XK):Prop|mk (lb:Addr) (ss:List Str) (TI:List (Nat×Nat)) (bs:List Nat) (_:vs=[.int (ss.length:Int),.ref lb]) (_:ss.length<=12) (_:ss.Nodup) (_:TJ ss.length TI) (_:H lb=some (.lst (zG bs))) (_:BtJ ss.length TI bs) (_:∀ (l:Addr) (H':Hp),L2.Same H H'->H l=none->H' l=some (.lst ((List.range ss.length).map fun k=>V.str (wdI (TI.map (nmP ss)) ss bs k)))->Q (.ref l) H')
theorem ok_feQ (F:Fun K "_law_free" "_law_free" qaE f fd) (T:Txt K mg cc cw):FnOk P w K mg base CX0 1 f fd ["_law_many_here","_law_bits_here","_law_table_here"] spFeQ:=by
 refine F.ok uN fun _ _ _ _ H vs Q E r h=>?_
 ·obtain ⟨v,lt,ss,tps,rfl,t,d,q⟩:=h;have j:=jV r;have x:0<2 ^ ss.length:=XB _
  have m:∀ k,k<2 ^ ss.length->(zG (tbL tps ss (2 ^ ss.length)))[k]?=some (.int (tbQ tps ss k:Nat)):=fun k l=>by
   rw [jO (by rw [qcZ];exact l),qe8 l]
  refine ⟨_,(qc (qk (i:=3) uN.nd rfl (XT rfl) (qx qc4 (qx qao qh (pv 0)) qh))
 (qe (qj (ji (sc:=qg qaE) (XN:=["_law_many_here","_law_bits_here","_law_table_here","_law_room"]) ["_law_k","_law_table_here","_law_room"] 1 [2,3] rfl rfl rfl (by decide +kernel) rfl (by decide +kernel)
  (jQ rfl T.b_range (qa (pv 0) qd)) (fun _ _ _ _=>(qq (i:=0) (show (["_law_k","_law_table_here","_law_room"]:List Str).Nodup by decide +kernel) rfl (yK rfl))) jc
  (fun _ _ _ _=>(jr (qp (zM (K:=K) rfl j) (qr (qt (K:=K) rfl j) (pv 1) (qx qaM (pv 2) (qbb qdM (qx qao qh (pv 0)))) (fun _ _=>rfl)) (qr (qt (K:=K) rfl j) (pv 1) (pv 2) (fun _ _=>rfl)) (qC _))))
  (fun _ _ _ _=>(pv 0)))))),?_⟩
  ext;refine vI ⟨by omega,by omega,by decide⟩ ?_;ext;rw [pwI];have p:((2 ^ ss.length:Nat):Int)-1=((2 ^ ss.length-1:Nat):Int):=by omega
  rw [p];obtain ⟨a,b⟩:∃ a,a=2 ^ ss.length-1:=⟨_,rfl⟩;rw [<- b];ext;refine ⟨_,rfl,by omega,by omega,?_⟩;rw [yY];refine zX (lo:=0) (fun i ys J=>J=H/\ys=(frI tps ss i).map iV) ⟨rfl,rfl⟩ (fun i ys J u g=>?_) fun ys J g=>?_
  ·obtain ⟨rfl,rfl⟩:=g;rw [X5];ext;refine vI ⟨by omega,by omega,by decide⟩ ?_;ext;refine vU ?_;ext;rw [pwI,qam];have e:j9 a (2 ^ i)<2 ^ ss.length:=Yo (by unfold j9;omega) (show a<2 ^ ss.length by omega);refine .inl (za d (qo (m _ e)) ?_);ext;refine .inl (za d (qo (m a (by omega))) ?_);ext;refine qcW ?_;ext
   have n:frI tps ss (i+1)=frI tps ss i++(if decide (tbQ tps ss (j9 a (2 ^ i))=tbQ tps ss a)=true then [i] else []):=by
    unfold frI;rw [qdz,<- b]
   have o:decide ((tbQ tps ss (j9 a (2 ^ i)):Int)=(tbQ tps ss a:Int))=decide (tbQ tps ss (j9 a (2 ^ i))=tbQ tps ss a):=YA.mpr (by omega);rw [n,o];have l1:(frI tps ss i).length<=i:=qbu _ i;refine qQ (fun h=>?_) fun h=>?_
   ·rw [yF h];ext;exact ⟨by rw [ya];exact zQ (by omega),rfl,by rw [yE];rfl⟩
   ·rw [yy h,Yd];exact ⟨rfl,rfl⟩
  ·obtain ⟨rfl,rfl⟩:=g;have l1:(frI tps ss ss.length).length<=ss.length:=qbu _ _;refine ⟨by rw [ya];exact Yc (zQ (by omega)),fun s c=>?_⟩;exact q s _ (qF (Sr J) c) c qb
theorem ok_nrQ (F:Fun K "_law_near" "_law_near" qaf f fd) (T:Txt K mg cc cw):FnOk P w K mg base CX0 1 f fd ["_law_bits_here","_law_free_here"] spNrQ:=by
 refine F.ok uO fun _ _ _ _ H vs Q E hr h=>?_
 ·obtain ⟨lb,lf,bs,a,rfl,aa,ac,m,p,q⟩:=h;have C:=jV hr;refine ⟨_,(qc (qcP (sc:=qg qaf) (XN:=["_law_bits_here","_law_free_here","_law_found"]) ["_law_k","_law_free_here"] 1 [1] rfl rfl rfl (by decide +kernel) rfl (by decide +kernel) (i:=2) uO.nd rfl rfl
  (jQ rfl T.b_range (qa (qu (qai (K:=K) rfl) rfl T.b_len xJ (qa (pv 0) qd)) qd)) (fun _ _ _ _=>(qq (i:=0) (show (["_law_k","_law_free_here"]:List Str).Nodup by decide +kernel) rfl (yK rfl))) jc
  (fun _ _ _ _=>(jr (qp (qaU (K:=K) rfl C) (pv 0) (pv 1) (by with_unfolding_all rfl))))
  (fun _ _ _ _=>(pv 0)))
 (qe (qj (ji (sc:=qg qaf) (XN:=["_law_bits_here","_law_free_here","_law_found"]) ["_law_k","_law_free_here","_law_bits_here"] 1 [1,0] rfl rfl rfl (by decide +kernel) rfl (by decide +kernel)
  (qU (K:=K) rfl (pv 2)) (fun _ _ _ _=>(qq (i:=0) (show (["_law_k","_law_free_here","_law_bits_here"]:List Str).Nodup by decide +kernel) rfl (XT rfl))) jc
  (fun _ _ _ _=>(jr (qp (qbw (K:=K) rfl C) (pe_compIn ["_law_j","_law_bits_here","_law_k"] 1 [2,0] rfl (by decide +kernel) rfl (by decide +kernel)
  (qU (K:=K) rfl (pv 1)) (fun _ _ _ _=>(qq (i:=0) (show (["_law_j","_law_bits_here","_law_k"]:List Str).Nodup by decide +kernel) rfl (yK rfl))) jc
  (fun _ _ _ _=>(jr (qp (zM (K:=K) rfl C) (qx qaM (qx qc5 (qr (qt (K:=K) rfl C) (pv 1) (pv 2) (fun _ _=>rfl)) (pv 0)) qh) qh (qC _))))
  (fun _ _ _ _=>(pv 0))) (qJ qd) (qC _))))
  (fun _ _ _ _=>(pv 0)))))),?_⟩
  ext;refine qbV m ?_;rw [show (zG bs).length=bs.length from ya _];refine ⟨_,rfl,by omega,by omega,?_⟩;rw [yY];refine zX (lo:=0) (fun i ys J=>J=H/\ys=((List.range i).filter fun k=>!decide (k∈a)).map iV) ⟨rfl,rfl⟩ (fun i ys J hi c=>?_) fun ys J c=>?_
  ·obtain ⟨rfl,rfl⟩:=c;rw [X5];ext;refine qb8 p ?_;rw [yF rfl,qdz];ext;have l1:((List.range i).filter fun k=>!decide (k∈a)).length<=i:=qbu _ i;refine qQ (fun h=>?_) fun h=>?_
   ·rw [yF h];ext;exact ⟨by rw [ya];exact zQ (by omega),rfl,by rw [yE];rfl⟩
   ·rw [yy h,Yd];exact ⟨rfl,rfl⟩
  ·obtain ⟨rfl,rfl⟩:=c;obtain ⟨xs,d⟩:∃ xs,xs=(List.range bs.length).filter fun k=>!decide (k∈a):=⟨_,rfl⟩;have l1:xs.length<=bs.length:=by rw [d];exact qbu _ _
   have W:∀ k∈xs,k<bs.length/\k∉a:=fun k hk=>by
    rw [d] at hk;obtain ⟨h1,h2⟩:=yp.mp hk;exact ⟨YT.mp h1,by simpa using h2⟩
   have X:(List.range bs.length).filter (nrI bs a)=xs.filter fun k=>!(a.filter fun j=>qcG bs k j).isEmpty:=by
    rw [d,List.filter_filter];refine xm fun k _=>?_;unfold nrI;rw [Bool.and_comm]
   rw [X] at q;rw [<- d];refine ⟨by rw [ya];exact Yc (zQ (by omega)),fun Y N=>?_⟩;have D:=qF (Sr J) (o:=.lst (xs.map iV)) N;have L:upd J Y (.lst (xs.map iV)) Y=some (.lst (xs.map iV)):=qb;generalize upd J Y (.lst (xs.map iV))=J2 at D L;ext;obtain ⟨e,s⟩:∃ e:Nat->Bool,e=fun k=>!(a.filter fun j=>qcG bs k j).isEmpty:=⟨_,rfl⟩;rw [<- s] at q;refine .inl ⟨⟨_,.of L⟩,qZ (xs:=xs.map iV) (fun i ys G=>L2.Same J2 G/\ys=((xs.take i).filter e).map iV) ⟨L2.Same.refl _,rfl⟩ (fun i ys G _ c=>.of (c.1 _ _ L)) (fun i y ys G t c=>?_) fun ys G c=>?_⟩
   ·obtain ⟨u,rfl⟩:=c;rw [yd] at t;obtain ⟨x,S,rfl⟩:=yn.mp t;have ae:i<xs.length:=(yc.mp S).1;have U:=(W x (ye S)).1;have g:=u _ _ (D _ _ p);have n:=u _ _ (D _ _ m);have l2:((xs.take i).filter e).length<=i:=yi (yW _ _) (by rw [yP];omega)
    have e0:(xs.take (i+1)).filter e=(xs.take i).filter e++(if e x=true then [x] else []):=by
     rw [yM,S,Yp];show _++[x].filter _=_;rw [yT,YK]
    rw [e0];ext;refine .inl ⟨⟨_,.of g⟩,qZ (xs:=a.map iV) (fun k ys l=>l=G/\ys=((a.take k).filter fun j=>qcG bs x j).map iV) ⟨rfl,rfl⟩ (fun k ys l _ b=>by rw [b.1];exact .of g) (fun k y ys l t b=>?_) fun ys l b=>?_⟩
    ·obtain ⟨rfl,rfl⟩:=b;rw [yd] at t;obtain ⟨v,hv,rfl⟩:=yn.mp t;have af:k<a.length:=(yc.mp hv).1
     have R:(a.take (k+1)).filter (fun j=>qcG bs x j)=(a.take k).filter (fun j=>qcG bs x j)++(if qcG bs x v=true then [v] else []):=by
      rw [yM,hv,Yp];show _++[v].filter _=_;rw [yT,YK]
     have ad:((a.take k).filter (fun j=>qcG bs x j)).length<=k:=yi (yW _ _) (by rw [yP];omega);ext;refine .inl (za n (qo (jO U)) ?_);ext;refine vI (by show (0:Int)<=(v:Int);omega) ?_;ext;refine qcW ?_;rw [qbp,R];ext;refine qQ (fun h=>?_) fun h=>?_
     ·rw [yF (show qcG bs x v=true from h)];ext;exact ⟨by rw [ya];exact zQ (by omega),rfl,by rw [yE];rfl⟩
     ·rw [yy (show ¬ qcG bs x v=true from h),Yd];exact ⟨rfl,rfl⟩
    ·obtain ⟨rfl,rfl⟩:=b;have e1:(a.map iV).length=a.length:=ya _;rw [e1,yS];have ep:e x=!(a.filter fun j=>qcG bs x j).isEmpty:=by rw [s]
     rw [ep];generalize M:a.filter (fun j=>qcG bs x j)=B;have ag:B.length<=14:=by rw [<- M];exact yi (yW _ _) (by omega)
     refine ⟨by rw [ya];exact Yc (zQ (by omega)),fun Z O=>?_⟩;have s3:=qF (Sr l) (o:=.lst (B.map iV)) O;have ex:upd l Z (.lst (B.map iV)) Z=some (.lst (B.map iV)):=qb;generalize upd l Z (.lst (B.map iV))=I at s3 ex;ext;refine ⟨by show 0<=sizeLine;decide,fun z hz=>?_⟩;have s4:=qF (Sr I) (o:=.lst []) hz;have ez:upd I z (.lst []) z=some (.lst []):=qb;generalize upd I z (.lst [])=G3 at s4 ez;refine ne_nilI (s4 _ _ ex) ez ?_;ext;have A:=(u.trans s3).trans s4;refine qQ (fun h=>?_) fun h=>?_
     ·rw [yF h];ext;exact ⟨by rw [ya];exact zQ (by omega),A,by rw [yE];rfl⟩
     ·rw [yy h,Yd];exact ⟨A,rfl⟩
   ·obtain ⟨u,rfl⟩:=c;rw [show (xs.map iV).length=xs.length from ya _,yS];have l2:(xs.filter e).length<=xs.length:=yW _ _;refine ⟨by rw [ya];exact Yc (zQ (by omega)),fun ln r=>?_⟩;have sN:=D.trans u;exact q ln _ (sN.trans (qF (Sr G) r)) (sN.free r) qb
theorem ok_wdQ (F:Fun K "_law_words" "_law_words" zS f fd) (T:Txt K mg cc cw) (R:DefOk P w K mg base CX0 1 "_law_table" ["_law_many_here","_law_bits_here"] spTbQ) (S:DefOk P w K mg base CX0 1 "_law_free" ["_law_many_here","_law_bits_here","_law_table_here"] spFeQ) (U:DefOk P w K mg base CX0 1 "_law_near" ["_law_bits_here","_law_free_here"] spNrQ):FnOk P w K mg base CX0 2 f fd ["_law_many_here","_law_bits_here"] spWdQ:=by
 refine F.ok K1 fun _ _ _ _ H vs Q E x h=>?_
 ·obtain ⟨L,ss,TI,bs,rfl,t,Z,g,l,c,q⟩:=h;have G:=jV x;refine ⟨_,(qc (qk (i:=2) K1.nd rfl (yK rfl) (qm R (hmR x) qz (qa (pv 0) (qa (pv 1) qd))))
 (qc (qk (i:=3) K1.nd rfl (XT rfl) (qm S (hmR x) qz (qa (pv 0) (qa (pv 1) (qa (pv 2) qd)))))
 (qc (qk (i:=4) K1.nd rfl (XT rfl) (qm U (hmR x) qz (qa (pv 1) (qa (pv 3) qd))))
 (qe (qj (ji (sc:=qg zS) (XN:=["_law_many_here","_law_bits_here","_law_table_here","_law_free_here","_law_near_here"]) ["_law_k","_law_near_here","_law_free_here"] 1 [4,3] rfl rfl rfl (by decide +kernel) rfl (by decide +kernel)
  (jQ rfl T.b_range (qa (pv 0) qd)) (fun _ _ _ _=>(qq (i:=0) (show (["_law_k","_law_near_here","_law_free_here"]:List Str).Nodup by decide +kernel) rfl (yK rfl))) jc
  (fun _ _ _ _=>zf)
  (fun _ _ _ _=>(qr (qt (K:=K) rfl G) (qJ (qa jh (qa jh (qa jh qd)))) (qx (jU (K:=K) rfl) (j3 qce rfl T.b_int boot_int (qa (jz (zw (K:=K) rfl G) (pv 0) (pv 1) (by with_unfolding_all rfl)) qd)) (qx qbT qh (j3 qce rfl T.b_int boot_int (qa (jz (zw (K:=K) rfl G) (pv 0) (pv 2) (by with_unfolding_all rfl)) qd)))) (fun _ _=>rfl))))))))),?_⟩
  ext;refine ⟨L,ss,TI,bs,rfl,t,Z,g,l,c,fun lt H1 s1 _ p=>?_⟩;obtain ⟨tps,r⟩:∃ tps,tps=TI.map (nmP ss):=⟨_,rfl⟩;rw [<- r] at q p;ext;refine ⟨L,lt,ss,tps,rfl,t,p,fun lf H2 s2 _ d=>?_⟩;have u:=s1.trans s2;have C:∀ j∈frI tps ss ss.length,j<ss.length:=fun j g=>YT.mp (yp.mp g).1;have B:(frI tps ss ss.length).length<=ss.length:=qbu _ _;obtain ⟨a,e⟩:∃ a,a=frI tps ss ss.length:=⟨_,rfl⟩;rw [<- e] at d C B;have I:∀ k,wdI tps ss bs k=(if k∈a then ("loose":Str) else if nrI bs a k=true then ("held":Str) else ("fast":Str)):=fun k=>by unfold wdI;rw [<- e]
  ext;refine ⟨L,lf,bs,a,rfl,by rw [c.1];omega,by omega,u _ _ l,d,fun ln M O _ n=>?_⟩;have v:=u.trans O;have m:=O _ _ d;rw [c.1] at n;ext;refine ⟨_,rfl,by omega,by omega,?_⟩;rw [yY];refine zX (lo:=0) (fun i ys J=>L2.Same M J/\ys=(List.range i).map fun k=>V.str (wdI tps ss bs k)) ⟨L2.Same.refl M,rfl⟩ (fun i ys J Y D=>?_) fun ys J D=>?_
  ·obtain ⟨A,rfl⟩:=D;rw [X5];ext;refine qag ?_;ext;refine ⟨by show 3<=sizeLine;decide,fun s b=>?_⟩;have y:=qF A (o:=.lst [.str "fast",.str "held",.str "loose"]) b;have N:upd J s (.lst [.str "fast",.str "held",.str "loose"]) s=some (.lst [.str "fast",.str "held",.str "loose"]):=qb;generalize upd J s (.lst [.str "fast",.str "held",.str "loose"])=J2 at y N;ext;refine qb8 (y _ _ n) ?_;rw [yy (by decide)];refine .inr ⟨_,rfl,?_⟩;ext;refine qb8 (y _ _ m) ?_;rw [yy (by decide)];refine .inr ⟨_,rfl,?_⟩;ext
   have X:decide (i∈(List.range ss.length).filter (nrI bs a))=nrI bs a i:=by
    rw [Yw,yQ,yp,YT];exact ⟨fun z=>z.2,fun z=>⟨Y,z⟩⟩
   rw [X]
   obtain ⟨j,g,W⟩:∃ j:Nat,(if nrI bs a i=true then (1:Int) else 0)+2*(if decide (i∈a)=true then (1:Int) else 0)=(j:Int)/\([V.str "fast",.str "held",.str "loose"])[j]?=some (V.str (wdI tps ss bs i)):=by
    rw [I];by_cases h1:i∈a
    ·have:nrI bs a i=false:=by unfold nrI;rw [yB h1];rfl
     rw [this,yB h1,yF h1];exact ⟨2,rfl,rfl⟩
    ·rw [yl h1,yy h1];cases nrI bs a i
     ·exact ⟨0,rfl,rfl⟩
     ·exact ⟨1,rfl,rfl⟩
   refine qbU (.inl ⟨by decide,by decide⟩) ?_;ext;rw [g];refine .inl (za N (qo W) ?_);refine ⟨by rw [ya,YS];exact zQ (by omega),y,?_⟩;rw [Xf,yE];rfl
  ·obtain ⟨A,rfl⟩:=D;rw [ya,YS];refine ⟨Yc (zQ (by omega)),fun s b=>?_⟩;exact q s _ ((v.trans A).trans (qF (Sr J) b)) ((v.trans A).free b) qb
theorem Ub:FnScope ["_law_web"] ["_law_web"] (qg qaF):=fS
theorem rmN_full:rmN ss (2 ^ ss.length-1)=ss:=by
 unfold rmN;exact kB.mpr fun s a=>by rw [Nat.testBit_two_pow_sub_one];exact yB (Yv a)
theorem fr_lo (e:∀ a b,tA tps a b->a≠b) (d:ss.Nodup) {k:Nat} (c:ss[k]?=some s):k∈frI tps ss ss.length↔s∈loQ tps ss:=by
 unfold frI loQ;rw [yp,yp,YT,yQ,yQ];unfold tbQ;rw [qcY d c,rmN_full,qfq e (qbt ss s) (yh _) (d.filter _)];exact ⟨fun z=>⟨ye c,z.2⟩,fun z=>⟨(yc.mp c).1,z.2⟩⟩
theorem wd_eq {bs:List Nat} {TI:List (Nat×Nat)} (W:Wt cw H x ss ns (TI.map (nmP ss))) (l:TJ ss.length TI) (i:BtJ ss.length TI bs) {k:Nat} (a:ss[k]?=some s):wdI (TI.map (nmP ss)) ss bs k=wdF ss ns (loQ (TI.map (nmP ss)) ss) s:=by
 have d:=W.wok.nd;have c:=fun {k:Nat} {s:Str} (a:ss[k]?=some s)=>fr_lo W.ir d a;unfold wdI wdF;by_cases h1:s∈loQ (TI.map (nmP ss)) ss
 ·rw [yF h1,yF ((c a).mpr h1)]
 ·rw [yy h1,yy (fun z=>h1 ((c a).mp z)),qcC d a]
  have e:nrI bs (frI (TI.map (nmP ss)) ss ss.length) k=(inB ss 0 (ns.getD k 0)).any fun o=>decide (o∈loQ (TI.map (nmP ss)) ss):=by
   unfold nrI;rw [yl (fun z=>h1 ((c a).mp z)),Ke,Bool.true_and,Yw,YZ,Xn,List.isEmpty_eq_false_iff_exists_mem];constructor
   ·rintro ⟨j,g⟩;obtain ⟨m1,h⟩:=yp.mp g;have f:j<ss.length:=YT.mp (yp.mp m1).1;have b:ss[j]?=some ss[j]:=yb f;generalize ss[j]=u at b;exact ⟨u,(W.bes k s u a).mpr ((qfs d l a b).mpr ((i.2.2 k j).mp h)),yB ((c b).mp m1)⟩
   ·rintro ⟨u,m1,h⟩;have m:=yk h;obtain ⟨j,b⟩:=yf (yp.mp m).1;exact ⟨j,yp.mpr ⟨(c b).mpr m,(i.2.2 k j).mpr ((qfs d l a b).mp ((W.bes k s u a).mp m1))⟩⟩
  rw [e]
theorem wd_all {bs:List Nat} {TI:List (Nat×Nat)} (W:Wt cw H x ss ns (TI.map (nmP ss))) (c:TJ ss.length TI) (b:BtJ ss.length TI bs):((List.range ss.length).map fun k=>V.str (wdI (TI.map (nmP ss)) ss bs k))=ss.map (wdS (TI.map (nmP ss)) ss ns):=by
 apply List.ext_getElem?;intro k;rw [yd,yd];by_cases h:k<ss.length
 ·have a:ss[k]?=some ss[k]:=yb h;rw [kz h,a];show some (V.str _)=some (wdS _ _ _ _);rw [wd_eq W c b a];rfl
 ·rw [List.getElem?_eq_none (by rw [YS];omega),List.getElem?_eq_none (by omega)];rfl
noncomputable def wpl (tps:List (Str×Str)) (ss:List Str) (ns:List Nat) (a:Str):List Str:=ss.filter fun s=>decide (wdF ss ns (loQ tps ss) s=a)
theorem lo_wpl (tps:List (Str×Str)) (ss:List Str) (ns:List Nat):loQ tps ss=wpl tps ss ns "loose":=by
 have e:∀ s,decide (wdF ss ns (loQ tps ss) s="loose")=decide (s∈loQ tps ss):=fun s=>by
  unfold wdF;by_cases h:s∈loQ tps ss
  ·rw [yF h,yB h];rfl
  ·rw [yy h,yl h];split<;>decide
 unfold wpl;rw [xm fun s _=>e s];unfold loQ;refine xm fun s a=>?_;rw [Yw,yQ,yQ,yp,yQ];exact ⟨fun z=>⟨a,z⟩,fun z=>z.2⟩
structure LsQ (H H':Hp) (l:Addr) (zs:List (Addr×Str×Addr)) (tps:List (Str×Str)) (ss:List Str) (ns:List Nat):Prop where
 l:H' l=some (.lst (zs.map fun z=>V.ref z.1))
 few:zs.length=3
 t:∀ z∈zs,H' z.1=some (.tup [.str z.2.1,.ref z.2.2])
 a:∀ z∈zs,H' z.2.2=some (.lst ((wpl tps ss ns z.2.1).map V.str))
 new:∀ z∈zs,H z.2.2=none
 nd:(zs.map fun z=>z.2.2).Nodup
inductive spLsQ (cw:Addr) (vs:List V) (H:Hp) (Q:VK) (E:XK):Prop|mk (x:Addr) (ss:List Str) (ns:List Nat) (tps:List (Str×Str)) (_:vs=[.ref x]) (_:Wt cw H x ss ns tps) (_:∀ (l:Addr) (zs:List (Addr×Str×Addr)) (H':Hp),L2.Same H H'->LsQ H H' l zs tps ss ns->Q (.ref l) H')
structure WNW (cw:Addr) (H:Hp) (x n wl:Addr) (ss:List Str) (ns:List Nat) (tps:List (Str×Str)):Prop where
 web:Wt cw H x ss ns tps
 nm:H n=some (.lst (ss.map V.str))
 wd:H wl=some (.lst (ss.map (wdS tps ss ns)))
theorem WNW.same {n a:Addr} (h:WNW cw H x n a ss ns tps) (s:L2.Same H H'):WNW cw H' x n a ss ns tps:=⟨h.web.same s,s _ _ h.nm,s _ _ h.wd⟩
theorem ok_lsQ (F:Fun K "_law_lists" "_law_lists" qaF f fd) (T:Txt K mg cc cw) (uL:DefOk P w K mg base CX0 15 "loose" ["web"] (spLo cw)) (Uy:DefOk P w K mg base CX0 18 "held" ["web"] (spHe cw "held")) (Uz:DefOk P w K mg base CX0 18 "fast" ["web"] (spHe cw "fast")):FnOk P w K mg base CX0 19 f fd ["_law_web"] (spLsQ cw):=by
 refine F.ok Ub fun _ _ _ _ H vs Q E J h=>?_
 ·obtain ⟨x,ss,ns,tps,rfl,W,q⟩:=h;refine ⟨_,(qe (qj (qJ (qa (jR (qa jh (qa (qm uL (hmR J) qz (qa (pv 0) qd)) qd))) (qa (jR (qa jh (qa (qm Uy (hmR J) qz (qa (pv 0) qd)) qd))) (qa (jR (qa jh (qa (qm Uz (hmR J) qz (qa (pv 0) qd)) qd))) qd)))))),?_⟩;ext;refine ⟨x,ss,ns,tps,rfl,W,fun b H1 s1 n1 v=>?_⟩;rw [lo_wpl tps ss ns] at v;ext;refine ⟨by show 2<=sizeLine;decide,fun e L=>?_⟩;have t:=qF (Sr H1) (o:=.tup [.str "loose",.ref b]) L;have p:upd H1 e (.tup [.str "loose",.ref b]) e=some (.tup [.str "loose",.ref b]):=qb;generalize upd H1 e (.tup [.str "loose",.ref b])=H2 at t p;have j:=s1.trans t;ext;refine ⟨x,ss,ns,tps,rfl,W.same j,fun c A y n2 Z=>?_⟩;have R:=j.trans y;ext;refine ⟨by show 2<=sizeLine;decide,fun g M=>?_⟩;have u:=qF (Sr A) (o:=.tup [.str "held",.ref c]) M;have r:upd A g (.tup [.str "held",.ref c]) g=some (.tup [.str "held",.ref c]):=qb;generalize upd A g (.tup [.str "held",.ref c])=H4 at u r;have m:=R.trans u;ext;refine ⟨x,ss,ns,tps,rfl,W.same m,fun d B X O e3=>?_⟩;have S:=m.trans X;ext;refine ⟨by show 2<=sizeLine;decide,fun i N=>?_⟩;have s6:=qF (Sr B) (o:=.tup [.str "fast",.ref d]) N;have s:upd B i (.tup [.str "fast",.ref d]) i=some (.tup [.str "fast",.ref d]):=qb;generalize upd B i (.tup [.str "fast",.ref d])=C at s6 s;ext;refine ⟨by show 3<=sizeLine;decide,fun l hl=>?_⟩;have Y:=qF (Sr C) (o:=.lst [.ref e,.ref g,.ref i]) hl;have el:upd C l (.lst [.ref e,.ref g,.ref i]) l=some (.lst [.ref e,.ref g,.ref i]):=qb;generalize upd C l (.lst [.ref e,.ref g,.ref i])=H7 at Y el;have a:=s6.trans Y;have n:=(u.trans X).trans a;have U:=(t.trans y).trans n;have D:b≠c:=fun z=>by have:=t _ _ v;rw [z,n2] at this;cases this
  have G:b≠d:=fun z=>by have:=((t.trans y).trans u) _ _ v;rw [z,O] at this;cases this
  have I:c≠d:=fun z=>by have:=u _ _ Z;rw [z,O] at this;cases this
  refine q l [(e, "loose",b),(g, "held",c),(i, "fast",d)] H7 (S.trans a) ⟨el,rfl,fun z hz=>?_,fun z hz=>?_,fun z hz=>?_,?_⟩
  ·simp only [yv,yG,Yl] at hz;rcases hz with rfl | rfl | rfl
   ·exact ((y.trans n)) _ _ p
   ·exact (X.trans a) _ _ r
   ·exact Y _ _ s
  ·simp only [yv,yG,Yl] at hz;rcases hz with rfl | rfl | rfl
   ·exact U _ _ v
   ·exact n _ _ Z
   ·exact a _ _ e3
  ·simp only [yv,yG,Yl] at hz;rcases hz with rfl | rfl | rfl
   ·exact n1
   ·exact j.free n2
   ·exact m.free O
  ·show [b,c,d].Nodup;simp [D,G,I]
theorem KD:FnScope ["_law_web","_law_thing","_law_found","e"] ["_law_web","_law_thing"] (qg zD):=fS
theorem K2:FnScope ["_law_purse_here","_law_many_here","_law_names_here","_law_ties_here"] ["_law_purse_here"] (qg qaG):=fS
theorem Pu.same (h:Pu H p) (s:L2.Same H H'):Pu H' p:=by
 obtain ⟨a,b,c,e,r⟩:=h;exact ⟨a,b,c,s _ _ e,r⟩
structure DrQ (cw p:Addr) (H:Hp) (x n wl:Addr) (ss:List Str) (ns:List Nat) (tps:List (Str×Str)):Prop where
 wb:WebP (fun z=>z=p) cw H x ss ns
 adj:Adj ss ns tps
 ok:∀ ab∈tps,ab.1∈ss/\ab.2∈ss/\ab.1≠ab.2
 nm:H n=some (.lst (ss.map V.str))
 np:n≠p
 wd:H wl=some (.lst (ss.map (wdS tps ss ns)))
 wp:wl≠p
 no:NOk ss
section
variable {cw p x n wl:Addr} {H H':Hp} {ss:List Str} {ns:List Nat} {tps:List (Str×Str)}
theorem DrQ.but (h:DrQ cw p H x n wl ss ns tps) (b:But p H H'):DrQ cw p H' x n wl ss ns tps:=⟨h.wb.keep b,h.adj,h.ok,b _ _ h.np h.nm,h.np,b _ _ h.wp h.wd,h.wp,h.no⟩
theorem DrQ.same (h:DrQ cw p H x n wl ss ns tps) (s:L2.Same H H'):DrQ cw p H' x n wl ss ns tps:=h.but fun c o _ e=>s c o e
theorem DrQ.wnw (h:DrQ cw p H x n wl ss ns tps):WNW cw H x n wl ss ns tps:=⟨⟨h.wb.web,h.adj,h.ok⟩,h.nm,h.wd⟩
end
inductive spDrQ (cw:Addr) (vs:List V) (H:Hp) (Q:VK) (E:XK):Prop|mk (p:Addr) (_:vs=[.ref p]) (_:Pu H p) (_:∀ (l x n wl:Addr) (ss:List Str) (ns:List Nat) (tps:List (Str×Str)) (H':Hp),But p H H'->Pu H' p->H' l=some (.lst [.ref x,.ref n,.ref wl])->l≠p->DrQ cw p H' x n wl ss ns tps->Q (.ref l) H')
inductive spRfQ (cw:Addr) (vs:List V) (H:Hp) (Q:VK) (E:XK):Prop|mk (x:Addr) (ss:List Str) (ns:List Nat) (v:V) (_:vs=[.ref x,v]) (_:WebAt cw H x ss ns) (_:BdT H v) (_:∀ H',L2.Same H H'->Q (.bl true) H')
theorem ok_drQ (F:Fun K "_law_drawn" "_law_drawn" qaG f fd) (T:Txt K mg cc cw) (Ur:DefOk P w K mg base CX0 2 "_law_many" ["_law_purse_here","_law_most"] spMyP) (Uh:DefOk P w K mg base CX0 2 "_law_names" ["_law_purse_here","_law_many_here"] spNmJ) (Us:DefOk P w K mg base CX0 2 "_law_ties" ["_law_purse_here","_law_many_here"] spTsJ)
  (Ut:DefOk P w K mg base CX0 7 "_law_made" ["_law_names_here","_law_ties_here"] (spMdJ cw)) (Uu:DefOk P w K mg base CX0 1 "_law_bits" ["_law_many_here","_law_ties_here"] spBtJ) (Ui:DefOk P w K mg base CX0 2 "_law_words" ["_law_many_here","_law_bits_here"] spWdQ):FnOk P w K mg base CX0 8 f fd ["_law_purse_here"] (spDrQ cw):=by
 refine F.ok K2 fun _ _ _ _ H vs Q E j h=>?_
 ·obtain ⟨p,rfl,hP,q⟩:=h;refine ⟨_,(qc (qk (i:=1) K2.nd rfl (yK rfl) (qm Ur (hmR j) qz (qa (pv 0) (qa qh qd))))
 (qc (qk (i:=2) K2.nd rfl (yK rfl) (qm Uh (hmR j) qz (qa (pv 0) (qa (pv 1) qd))))
 (qc (qk (i:=3) K2.nd rfl (yK rfl) (qm Us (hmR j) qz (qa (pv 0) (qa (pv 1) qd))))
 (qe (qj (qJ (qa (qm Ut (hmR j) qz (qa (pv 2) (qa (pv 3) qd))) (qa (pv 2) (qa (qm Ui (hmR j) qz (qa (pv 1) (qa (qm Uu (hmR j) qz (qa (pv 1) (qa (pv 3) qd))) qd))) qd))))))))),?_⟩
  ext;refine ⟨p,12,rfl,hP,by decide,fun m J2 hm b2 N=>?_⟩;have s:m<=12:=by omega
  ext;refine ⟨p,m,rfl,N,by omega,fun n ss J3 b3 O ac A U M W=>?_⟩;subst W;ext;refine ⟨p,ss.length,rfl,O,by omega,fun t ts TI J4 b4 a ad ae hI I=>?_⟩;have y:=b4 _ _ A U;have bH:=(b2.trans7 b3).trans7 b4;ext;refine ⟨n,t,ss,ts,TI,rfl,y,M,hI,I,fun x ns J5 Z Y hW d=>?_⟩;ext;refine ⟨t,ss.length,ts,TI,rfl,by omega,hI.same Z,I,fun bb bs J6 s6 aa S r=>?_⟩;ext;refine ⟨bb,ss,TI,bs,rfl,s,M.nd,I,S,r,fun G L s7 X B=>?_⟩;rw [wd_all d I r] at B;have D:=s6.trans s7;have C:=Z.trans D;ext;refine ⟨by show 3<=sizeLine;decide,fun l hl=>?_⟩;have J:=qF (Sr L) (o:=.lst [.ref x,.ref n,.ref G]) hl;have el:upd L l (.lst [.ref x,.ref n,.ref G]) l=some (.lst [.ref x,.ref n,.ref G]):=qb;generalize upd L l (.lst [.ref x,.ref n,.ref G])=J8 at J el;have g:=C.trans J;have R:WebP (fun z=>z=p) cw J5 x ss ns:=hW.apart (a.apart Y) (fun z e=>by subst e;obtain ⟨u,v,w,e,_⟩:=a;rw [e];exact fun z=>by cases z);exact q l x n G ss ns _ J8 (bH.trans7 fun c o _ e=>g c o e) (a.same g) el ((a.same C).apart hl) ⟨R.keep fun b o _ e=>(D.trans J) b o e,d.adj,d.ok,g _ _ y,A,J _ _ B,(a.same (Z.trans s6)).apart X,M⟩
theorem ok_rfQ (F:Fun K "_law_refused" "_law_refused" zD f fd) (T:Txt K mg cc cw) (u:W.mroIn K (cc 0) (.ref (cc 0))=some true) (L:DefOk P w K mg base (CX1 P w) 17 "sort_of" ["web","place"] (spNumB cc cw)):FnOk P w K mg base CX0 18 f fd ["_law_web","_law_thing"] (spRfQ cw):=by
 refine F.ok KD fun _ _ _ _ H vs Q E g h=>?_
 ·obtain ⟨x,ss,ns,v,rfl,S,B,q⟩:=h;have s:=jV g;obtain ⟨d,D,hw,_⟩:=id B;refine ⟨_,(qc (qk (i:=2) KD.nd rfl (yK rfl) zE)
 (qc (ps_try rfl rfl rfl qv)
 (qe (qj (jz (zM (K:=K) rfl s) (qu (qeb (K:=K) rfl s g.gd T.smod) rfl T.b_repr boot_repr (qa (pv 2) qd)) (qu (qeb (K:=K) rfl s g.gd T.smod) rfl T.b_repr boot_repr (qa (qJ (qa (pv 1) (qa jF (qa jF qd)))) qd)) (qC _)))))),?_⟩
  ext;refine ⟨fun X c m H'=>∃ b,c=.ref (cc 0)/\m=some b/\L2.Same H H'/\H' b=some (.xd [(qfw 0,v)])/\X=[some (.ref x),some v,some .non,none],_,fun pn xe qdk=>(qe (qI (pe_defS L (hmR g) qdk (qa (pv 0) (qa (pv 1) qd))))),?_,fun a C M Y H' R n=>?_⟩
  ·ext;exact ⟨x,ss,ns,v,rfl,S,B,fun b H' s' j=>⟨b,rfl,rfl,s',j,rfl⟩⟩
  ·obtain ⟨b,p,rfl,U,j,rfl⟩:=R;cases p;refine ⟨_,(ph_as (K:=K) rfl KD.nd (i:=3) rfl rfl rfl T.m_NoPlace (qe (qk (i:=2) KD.nd rfl (yK rfl) (qJ (qa (qA (K:=K) rfl (pv 3) rfl) (qa (qu (qaw (K:=K) rfl) rfl T.b_isinstance YR (qa (pv 3) (qa (qdK (v:=.ref (cc 1)) rfl T.m_NoPairs rfl) qd))) (qa (qu (qaw (K:=K) rfl) rfl T.b_isinstance YR (qa (pv 3) (qa (jT (v:=.ty "ValueError") rfl T.b_ValueError zL rfl) qd))) qd)))))) (ph_no (K:=K) rfl rfl T.m_OnceError (qe (qk (i:=2) KD.nd rfl (yK rfl) (qJ qd))) ph_nil)),?_⟩;refine ⟨true,u,T.xat 0 (by decide),T.xat 0 (by decide),qag ?_⟩;have e:IsX H' a (cc 0) (some b):=.inr n;have J:TyX K H' (.ref a) (.ref (cc 0)):=.inr ⟨a,cc 0,some b,rfl,rfl,e,T.xat 0 (by decide),fun d z=>by cases z;exact ⟨_,j⟩⟩;ext;refine .inr ⟨a,cc 0,b,_,v,rfl,e,T.xat 0 (by decide),T.na 0 (by decide),j,rfl,?_⟩;ext;refine qbx J rfl (T.kit 0 1 (by decide) (by decide)) ?_;ext;refine qbx J rfl (T.kitV 0 (by decide)) ?_;ext;refine ⟨by show 3<=sizeLine;decide,fun l hl=>?_⟩;have y:=qF U (o:=.lst [v,.bl false,.bl true]) hl;have A:upd H' l (.lst [v,.bl false,.bl true]) l=some (.lst [v,.bl false,.bl true]):=qb;have O:decide (0=1)=false:=rfl;rw [O];generalize upd H' l (.lst [v,.bl false,.bl true])=Z at y A;have G:ShwS [d,.bool false,.bool true] 2000 6:=(ShwS.cons (hw.mono (yh _) (show 5<=6 by decide)) (ShwS.cons Shw.bl (ShwS.cons Shw.bl ShwS.nil))).mono (by omega) (yh _);ext;refine ⟨_,_,rfl,.lst A (.cons (D.same y) (.cons (.bl _) (.cons (.bl _) .nil))),G.list.mono (by decide) (by decide),?_⟩;ext;refine ⟨by show 3<=sizeLine;decide,fun l2 r=>?_⟩;have I:=qF y (o:=.lst [v,.bl false,.bl true]) r;refine ⟨_,_,rfl,.lst qb (.cons (D.same I) (.cons (.bl _) (.cons (.bl _) .nil))),G.list.mono (by decide) (by decide),?_⟩;refine .inl (.inl (.inl ⟨rfl,rfl,?_⟩));have N:∀ t:Str,(if false=true then !eqV (V.str t) (V.str t) else eqV (V.str t) (V.str t))=true:=fun t=>by simp [eqV]
   rw [N];exact q _ I
theorem KA:FnScope ["_law_web","_law_names_here","_law_words_here","_law_asked","_law_due","_law_k","_law_turn","_law_found","_law_word","_law_places"] ["_law_web","_law_names_here","_law_words_here","_law_asked"] (qg zT):=fS
theorem nin_take (d:l.Nodup) (c:l[i]?=some y):y∉l.take i:=fun z=>by
 obtain ⟨k,a⟩:=yf z;have b:k<i:=by have:=(yc.mp a).1;rw [yP] at this;omega
 rw [Xx b] at a;have:=qy d a c;omega
theorem qcH {g:Str->V} (a:∀ s,eqV (g s) (g s)=true) {m:List Str}:∀ {l:List Str},(∀ s∈l,s∈m)->qdG (fnK g m) (fnK g l)=true
 | [],_=>rfl
 | s::r,h=>by
  show (match jG (fnK g m) (.inr s:Key) with | none=>false | some y=>eqV (g s) y&&qdG (fnK g m) (fnK g r))=true;rw [qaC (h s yN)];show (eqV (g s) (g s)&&_)=true;rw [a,qcH a fun z hz=>h z (yz _ hz)];rfl
theorem eqT_strJ {a b:Addr} {ks:List Str} (d:H a=some (.lst (ks.map V.str))) (f:H b=some (.lst (ks.map V.str))):EqT K H 1 a b true:=by
 have z:=EqT.lst (K:=K) (H:=H) (n:=0) (e:=fun _=>true) (SqL.of d) (SqL.of f) rfl fun j x y h1 c=>by
  rw [h1] at c;cases c;obtain ⟨k,_,rfl⟩:=Yb.mp (ye h1);have e:eqV (V.str k) (V.str k)=true:=by simp [eqV]
  have:=EqD.flat (K:=K) (H:=H) (n:=0) (x:=V.str k) (y:=V.str k) rfl rfl
  rwa [e] at this
 have e:∀ m:Nat,((List.range m).all fun _=>true)=true:=fun m=>Yz.mpr fun _ _=>rfl;rw [e] at z;exact z
inductive spRgQ (cw:Addr) (vs:List V) (H:Hp) (Q:VK) (E:XK):Prop|mk (x n wl ak:Addr) (ss:List Str) (ns:List Nat) (tps:List (Str×Str)) (ks:List Nat) (_:vs=[.ref x,.ref n,.ref wl,.ref ak]) (_:WNW cw H x n wl ss ns tps) (_:H ak=some (.lst (ks.map iV))) (_:∀ (H':Hp),L2.Same H H'->Q (.bl true) H')
theorem ok_rgQ (F:Fun K "_law_right" "_law_right" zT f fd) (T:Txt K mg cc cw) (KU:DefOk P w K mg base CX0 17 "sort_of" ["web","place"] (spStf cw)) (KN:DefOk P w K mg base CX0 16 "sorts" ["web"] (spSo cw)) (Uj:DefOk P w K mg base CX0 19 "_law_lists" ["_law_web"] (spLsQ cw)):FnOk P w K mg base CX0 20 f fd ["_law_web","_law_names_here","_law_words_here","_law_asked"] (spRgQ cw):=by
 refine F.ok KA fun _ _ _ s H vs Q E hr h=>?_
 ·obtain ⟨x,n,wl,ak,ss,ns,tps,ks,rfl,W,ao,q⟩:=h;have B:=jV hr;have few:=W.web.wok.few;have nd:=W.web.wok.nd;obtain ⟨g,hg⟩:∃ g,g=wdS tps ss ns:=⟨_,rfl⟩;have ah:∀ s,eqV (g s) (g s)=true:=fun s=>by rw [hg];unfold wdS;simp [eqV]
  have D:∀ s,j5 (g s)=true:=fun s=>by rw [hg];rfl
  refine ⟨_,(qc (qk (i:=4) KA.nd rfl (XT rfl) jM)
 (qc (jf yU rfl (jQ rfl T.b_range (qa (qu (qai (K:=K) rfl) rfl T.b_len xJ (qa (pv 1) qd)) qd)) (qq (i:=5) KA.nd rfl (yK rfl))
 (qc (jv (qr (qt (K:=K) rfl B) (pv 2) (pv 5) (fun _ _=>rfl)) (jy (pv 4) (qr (qt (K:=K) rfl B) (pv 1) (pv 5) (fun _ _=>rfl)) (jB B)))
 (qe (qN (PW.pt (qa8 (qp (zw (K:=K) rfl B) (pv 5) (pv 3) (by with_unfolding_all rfl)) (qbP (qp (qfk (K:=K) rfl B) (qm KU (hmR hr) qz (qa (pv 0) (qa (qr (qt (K:=K) rfl B) (pv 1) (pv 5) (fun _ _=>rfl)) qd))) (qr (qt (K:=K) rfl B) (pv 2) (pv 5) (fun _ _=>rfl)) (qC _))))) (qe (qj jF)) qv))))
 (qc (jf yU rfl (jQ rfl T.b_range (qa qh qd)) (qq (i:=6) KA.nd rfl (yK rfl))
 (qc (qk (i:=7) KA.nd rfl (yK rfl) (qm KN (hmR hr) qz (qa (pv 0) qd)))
 (qc (qN (PW.pt (qbQ (q8 (qY (qu (qaw (K:=K) rfl) rfl T.b_isinstance YR (qa (pv 7) (qa (jT (v:=.ty "dict") rfl T.b_dict boot_dict rfl) qd))))) (qaL (qp (qfk (K:=K) rfl B) (pv 7) (pv 4) (qC _))))) (qe (qj jF)) qv)
 (qc (qI (k_bm0 (K:=K) rfl PySem.F.plainAttrs_dict PySem.F.slot_dict_clear PySem.F.type_dict_clear mtR_dclear (pv 7)))
 (qc (jv jh (jy (pv 7) jh (jB B)))
 (qe (jf yU rfl (qea (K:=K) rfl (qm Uj (hmR hr) qz (qa (pv 0) qd))) (qcb rfl (jx (qq (i:=8) KA.nd rfl (XT rfl)) (jx (qq (i:=9) KA.nd rfl (yK rfl)) qa9)))
 (qc (qN (PW.pt (qbQ (q8 (qY (qu (qaw (K:=K) rfl) rfl T.b_isinstance YR (qa (pv 9) (qa (jT (v:=.ty "list") rfl T.b_list Xj rfl) qd))))) (qaL (qp (qfk (K:=K) rfl B) (pv 9) (ji (sc:=qg zT) (XN:=["_law_web","_law_names_here","_law_words_here","_law_asked","_law_due","_law_k","_law_turn","_law_found","_law_word","_law_places"]) ["_law_name","_law_word","_law_due"] 1 [8,4] rfl rfl rfl (by decide +kernel) rfl (by decide +kernel)
  (qU (K:=K) rfl (pv 1)) (fun _ _ _ _=>(qq (i:=0) (show (["_law_name","_law_word","_law_due"]:List Str).Nodup by decide +kernel) rfl (yK rfl))) jc
  (fun _ _ _ _=>(jr (qp (zM (K:=K) rfl B) (qr (qt (K:=K) rfl B) (pv 2) (pv 0) (fun _ _=>rfl)) (pv 1) (qC _))))
  (fun _ _ _ _=>(pv 0))) (qC _))))) (qe (qj jF)) qv)
 (qe (qI (qbI (K:=K) rfl yR Ye Yg qM (pv 9) (qa jh qd))))))))))))
 (qe (qj jF))))),?_⟩
  ext;intro m ag;have s1:=qF (Sr H) (o:=.dK []) ag;have ae:upd H m (.dK []) m=some (.dK []):=qb;generalize upd H m (.dK [])=H1 at s1 ae;ext;refine qbV (s1 _ _ W.nm) ?_;rw [ya];refine ⟨_,rfl,by omega,by omega,?_⟩;rw [yY];refine j0 (lo:=0) (fun i C J=>L2.Same H J/\J m=some (.dK (fnK g (ss.take i)))/\∃ I L M N O,C=[some (.ref x),some (.ref n),some (.ref wl),some (.ref ak),some (.ref m),I,L,M,N,O]) ⟨s1,ae,_,_,_,_,_,rfl⟩ (fun i C J hi b=>?_) fun C J b=>?_
  ·obtain ⟨R,A,I,L,M,N,O,rfl⟩:=b;rw [X5];have Z:ss[i]?=some ss[i]:=yb hi;generalize ss[i]=v at Z;have WJ:=W.same R;ext;refine .inl (za WJ.wd (qo (v:=g v) (by rw [yd,Z,<- hg];rfl)) ?_);ext;refine .inl (za WJ.nm (qo (v:=.str v) (by rw [yd,Z];rfl)) ?_);ext;refine .inr ⟨m,_,rfl,DPut.k (k:=Sum.inr v) A (by rw [qev,yP];exact qi (by omega)),?_⟩;have X:L2.Same H (upd J m (.dK (zc (fnK g (ss.take i)) (Sum.inr v) (g v)))):=qaj R ag
   have e2:upd J m (.dK (zc (fnK g (ss.take i)) (Sum.inr v) (g v))) m=some (.dK (fnK g (ss.take (i+1)))):=by
    rw [qb,yM,Z];exact congrArg (fun z=>some (HO.dK z)) (qeu (nin_take nd Z))
   generalize upd J m (.dK (zc (fnK g (ss.take i)) (Sum.inr v) (g v)))=J2 at X e2;have W2:=W.same X;ext;refine qb8 (X _ _ ao) ?_;rw [yy (by decide)];ext;refine qQ (fun _=>?_) fun _=>?_
   ·ext;refine .inl (za W2.nm (qo (v:=.str v) (by rw [yd,Z];rfl)) ?_);ext;refine ⟨x,ss,ns,tps,v,rfl,W2.web,ye Z,fun J3 Y=>?_⟩;rw [<- hg];ext;refine .inl (za (Y _ _ W2.wd) (qo (v:=g v) (by rw [yd,Z,<- hg];rfl)) ?_);refine .inl (.inl ⟨D v,D v,?_⟩);rw [yF rfl,ah];ext;refine yq ?_;exact ⟨X.trans Y,Y _ _ e2,_,_,_,_,_,rfl⟩
   ·exact qQ (fun h=>by cases h) fun _=>⟨X,e2,_,_,_,_,_,rfl⟩
  ·obtain ⟨R,A,I,L,M,N,O,rfl⟩:=b;rw [yS] at A;ext;refine ⟨2,rfl,by decide,by decide,j0 (lo:=0) (n:=2) (fun i C J=>L2.Same H J/\J m=some (.dK (fnK g ss))/\∃ I L M N O,C=[some (.ref x),some (.ref n),some (.ref wl),some (.ref ak),some (.ref m),I,L,M,N,O]) ⟨R,A,_,_,_,_,_,rfl⟩ (fun i C J hi b=>?_) fun C J b=>?_⟩
   ·obtain ⟨R,A,I,L,M,N,O,rfl⟩:=b;have WJ:=W.same R;ext;refine ⟨x,ss,ns,tps,rfl,WJ.web,fun d J2 X aa hd=>?_⟩;rw [<- hg] at hd;have ax:=R.trans X;have am:=X _ _ A;have dd:m≠d:=fun z=>by rw [z,aa] at A;cases A
    ext;refine qbx (.inl (.dK hd)) rfl (zK K "dict" (by simp) "dict" (by simp)) ?_;ext;refine yq ?_;ext;refine .inr ⟨d,m,_,_,rfl,rfl,hd,am,fun z hz=>?_,fun z hz=>?_,?_⟩
    ·obtain ⟨s,_,rfl⟩:=Yb.mp hz;exact D s
    ·obtain ⟨s,_,rfl⟩:=Yb.mp hz;exact D s
    rw [xv,qcH ah fun s hs=>hs];ext;refine yq ?_;ext;refine ⟨.inr (.inr (.inl ⟨rfl,.inl ⟨_,hd⟩⟩)),⟨d,_,rfl,rfl,hd,?_⟩⟩;ext;refine .inr ⟨d,_,rfl,DPut.k (k:=Sum.inr "a") qb (by decide),?_⟩;have Y:L2.Same J (upd (upd J2 d (.dK [])) d (.dK (zc [] (Sum.inr "a") (V.str "b")))):=qaj (qaj X aa) aa;generalize upd (upd J2 d (.dK [])) d (.dK (zc [] (Sum.inr "a") (V.str "b")))=J3 at Y;have U:=R.trans Y;ext;refine qfj ?_;ext;refine ⟨x,ss,ns,tps,rfl,W.web.same U,fun l zs J4 s4 hL=>?_⟩;have ay:=U.trans s4;have ar:=s4 _ _ (Y _ _ A);refine ⟨l,_,rfl,.of hL.l,qT (xs:=zs.map fun z=>V.ref z.1) (fun i C J=>L2.Same J3 J/\J l=some (.lst (zs.map fun z=>V.ref z.1))/\(∀ z∈zs,J z.1=some (.tup [.str z.2.1,.ref z.2.2]))/\(∀ (k:Nat) z,i<=k->zs[k]?=some z->J z.2.2=some (.lst ((wpl tps ss ns z.2.1).map V.str)))/\∃ I L M N O,C=[some (.ref x),some (.ref n),some (.ref wl),some (.ref ak),some (.ref m),I,L,M,N,O]) ⟨s4,hL.l,hL.t,fun k z _ hz=>hL.a z (ye hz),_,_,_,_,_,rfl⟩ (fun i C J _ b=>.of b.2.1) (fun i y C G hy b=>?_) fun C G b=>?_⟩
    ·obtain ⟨sG,lG,tG,aG,I,L,M,N,O,rfl⟩:=b;rw [yd] at hy;obtain ⟨⟨t,j,a⟩,hz,rfl⟩:=yn.mp hy;have aj:=ye hz;have ht:=tG _ aj;have ha:=aG i _ (yh _) hz;have a0:=hL.new _ aj;dsimp only at ht ha a0;have aq:=U.trans sG;have af:=sG _ _ (Y _ _ A);have WG:=W.same aq;have as:i<3:=by rw [<- hL.few];exact (yc.mp hz).1
     have aw:(wpl tps ss ns j).length<=14:=yi (yW _ _) few;refine ⟨t,_,rfl,.of ht,rfl,_,_,rfl,_,_,rfl,rfl,?_⟩;ext;refine qbx (.inl (.lst ha)) rfl (zK K "list" (by simp) "list" (by simp)) ?_;ext;refine yq ?_;ext;refine .inl ⟨⟨_,.of WG.nm⟩,qZ (xs:=ss.map V.str) (fun k ys J=>J=G/\ys=((ss.take k).filter fun s=>decide (wdF ss ns (loQ tps ss) s=j)).map V.str) ⟨rfl,rfl⟩ (fun k ys J _ b=>by rw [b.1];exact .of WG.nm) (fun k y ys J hy b=>?_) fun ys J b=>?_⟩
     ·obtain ⟨rfl,rfl⟩:=b;obtain ⟨sy,gk,rfl⟩:=zy hy;have au:=(yc.mp gk).1;have av:((ss.take k).filter fun s=>decide (wdF ss ns (loQ tps ss) s=j)).length<=k:=yi (yW _ _) (by rw [yP];omega);ext;refine qdI af (qaC (ye gk)) ?_;ext;refine .inl (.inl (.inl ⟨D sy,rfl,?_⟩))
      have ee:(if (false:Bool)=true then !eqV (g sy) (.str j) else eqV (g sy) (.str j))=decide (wdF ss ns (loQ tps ss) sy=j):=by
       rw [yy (by decide),hg];show (wdF ss ns (loQ tps ss) sy==j)=_;rw [Yw];simp
      rw [ee];rw [yM,gk,Yp];refine ⟨_,rfl,?_⟩;show if decide (wdF ss ns (loQ tps ss) sy=j)=true then _ else _;refine qQ (fun h1=>?_) fun h1=>?_
      ·ext;refine ⟨by rw [ya];exact qi (by omega),rfl,?_⟩;show _=List.map V.str (_++[sy].filter _);rw [yT,yF h1,yE];rfl
      ·refine ⟨rfl,?_⟩;show _=List.map V.str (_++[sy].filter _);rw [yT,yy h1,YK,Yd]
     ·obtain ⟨rfl,rfl⟩:=b;rw [show (ss.map V.str).length=ss.length from ya _,yS];show ((wpl tps ss ns j).map V.str).length<=_/\∀ r,_->_;refine ⟨by rw [ya];exact Yc (qi (by omega)),fun r hr=>?_⟩;have s5:=qF (Sr J) (o:=.lst ((wpl tps ss ns j).map V.str)) hr;have er:upd J r (.lst ((wpl tps ss ns j).map V.str)) r=some (.lst ((wpl tps ss ns j).map V.str)):=qb;have p:=s5 _ _ ha;refine .inl (.inr (.inl ⟨a,r,true,1,rfl,rfl,by decide,eqT_strJ p er,?_⟩));have al:=sG.trans s5;have S:=s5 _ _ lG;have ac:=fun z hz=>s5 _ _ (tG z hz);have ad:=fun k z hk hz=>s5 _ _ (aG k z hk hz);have an:upd J r (.lst ((wpl tps ss ns j).map V.str))=upd J r (.lst (((ss.filter fun s=>decide (wdF ss ns (loQ tps ss) s=j))).map V.str)):=rfl;rw [<- an];generalize upd J r (.lst ((wpl tps ss ns j).map V.str))=G2 at al S ac ad p;ext;refine yq ?_;ext;refine ⟨.inl ⟨rfl,_,.of p⟩,?_⟩;ext;refine ⟨a,_,_,rfl,rfl,p,by rw [ya];exact qi (by omega),?_⟩
      have ap:l≠a:=fun z=>by
       rw [z,p] at S;have:=congrArg (fun o:Option HO=>match o with | some (.lst xs)=>xs.map (fun v:V=>match v with | .ref _=>true | _=>false) | _=>[]) S;dsimp only at this;rw [List.map_map,List.map_map] at this;have h3:=hL.few
       match zs,h3 with
       | [u,v,y],_ =>
        have t2:[true,true,true]=((wpl tps ss ns j).map ((fun v:V=>match v with | .ref _=>true | _=>false) ∘ V.str)):=this.symm
        cases hq:wpl tps ss ns j with
        | nil=>rw [hq] at t2;cases t2
        | cons c r=>rw [hq] at t2;injection t2 with t3 _;cases t3
      refine ⟨qaj al a0,by rw [qf ap];exact S,fun z hz=>?_,fun k z hk ai=>?_,_,_,_,_,_,rfl⟩
      ·rw [qf (fun e=>by have:=ac z hz;rw [e,p] at this;cases this)];exact ac z hz
      ·rw [qf (fun e=>?_)]
       ·exact ad k z (by omega) ai
       ·have n1:(zs.map fun z=>z.2.2)[k]?=some z.2.2:=by rw [yd,ai];rfl
        have n2:(zs.map fun z=>z.2.2)[i]?=some a:=by rw [yd,hz];rfl
        rw [e] at n1;have:=(List.getElem?_inj (yc.mp n1).1 hL.nd).mp (n1.trans n2.symm);omega
    ·obtain ⟨sG,lG,tG,aG,I,L,M,N,O,rfl⟩:=b;exact ⟨U.trans sG,sG _ _ (Y _ _ A),_,_,_,_,_,rfl⟩
   ·obtain ⟨R,A,I,L,M,N,O,rfl⟩:=b;ext;exact q J R
theorem KK:FnScope ["_law_script","_law_cell_here","_law_purse_here","_law_web","_law_names_here","_law_words_here","_law_other","_law_at","_law_thing"] ["_law_script"] (qg qc0):=fS
inductive spLaw (K:W.Frag) (vs:List V) (H:Hp) (Q:VK) (E:XK):Prop|mk (a:Addr) (ns:List Int) (_:vs=[.ref a]) (_:SqL K H a (ns.map V.int)) (_:ns.length<=63) (_:∀ H',Q (.bl true) H')
theorem ne_nilS {l z:Addr} {Q:VK} (hl:H l=some (.lst (xs.map V.str))) (hz:H z=some (.lst [])) (q:Q (.bl (!xs.isEmpty)) H):qfg K true (.ref l) (.ref z) H Q:=by
 cases xs with
 | nil=>exact .inr (.inl ⟨l,z,true,1,rfl,rfl,by decide,EqT.lst (n:=0) (e:=fun _=>true) (SqL.of hl) (SqL.of hz) rfl fun j x y h=>by (simp at h),q⟩)
 | cons x r=>exact .inr (.inl ⟨l,z,false,1,rfl,rfl,by decide,EqT.lstL (SqL.of hl) (SqL.of hz) (by simp),q⟩)
theorem name_small {x:Str} (h:zd x=true):∀ c∈x.cps.toList,c<16 ^ 8:=by
 intro c hc;have a:=Yz.mp (qbZ h).2.2 c hc;by_cases b:c<16 ^ 8
 ·exact b
 ·exfalso;unfold sg at a;split at a
  ·have d:("z":Str).cps.toList=[122]:=rfl;rw [d] at a;have:([122]:List Nat) < [c]:=List.Lex.rel (by omega);simp [this] at a
  ·cases a
theorem qdA (m:Nat):∀ {ss:List Str},(∀ s∈ss,zd s=true)->ShwS (ss.map PyData.str) (7*ss.length) m
 | [],_=>.nil
 | s::r,h=>by
  have a:=h s yN;exact (ShwS.cons (Shw.str (m:=m) (name_small a)) (qdA m (ss:=r) fun j b=>h j (yz _ b))).mono (by have:=nameS_len a;simp only [yC];omega) (yh _)
theorem BdT.ref {a:Addr} {d:PyData} (h:Dat H (.ref a) d) (f:Shw d n m) (c:n<=400) (b:m<=5):BdT H (.ref a):=⟨d,h,f.mono c b,fun _ e=>by cases e⟩
theorem ok_law46 (F:Fun K "law" "law" qc0 f fd) (T:Txt K mg cc cw) (Uv:DefOk P w K mg base CX0 1 "_law_cell" ["_law_script","_law_k"] (spCe K)) (Uk:DefOk P w K mg base CX0 1 "_law_purse" ["_law_cell_here"] spPu) (Km:DefOk P w K mg base CX0 1 "_law_take" ["_law_purse_here","_law_many_here"] spTkP)
  (uP:DefOk P w K mg base CX0 8 "_law_drawn" ["_law_purse_here"] (spDrQ cw)) (KU:DefOk P w K mg base CX0 17 "sort_of" ["web","place"] (spStf cw)) (uq:DefOk P w K mg base CX0 20 "_law_right" ["_law_web","_law_names_here","_law_words_here","_law_asked"] (spRgQ cw)) (u4:DefOk P w K mg base CX0 18 "_law_refused" ["_law_web","_law_thing"] (spRfQ cw)):FnOk P w K mg base CX0 21 f fd ["_law_script"] (spLaw K):=by
 refine F.ok KK fun _ _ _ _ H vs Q E L h=>?_
 ·obtain ⟨a,nz,rfl,hS,cb,q⟩:=h;have hu:=jV L;obtain ⟨TC105,af⟩:∃ t:TS,t=fun D N J=>∃ (H1:Hp) (p x n wl o x2 n2 s:Addr) (ss C:List Str) (ns B:List Nat) (tps g:List (Str×Str)) (k:Nat) (y1 y8:Option V),
    (∀ Z J',L2.Same H1 J'->(∃ y1 y2 y3 y4 y5 y6 y7 y8,Z=[some (.ref a),y1,y2,y3,y4,y5,y6,y7,y8])->D.nx Z J')/\N=[some (.ref a),y1,some (.ref p),some (.ref x),some (.ref n),some (.ref wl),some (.ref o),some (.int (k:Int)),y8] /\
    L2.Same H1 J/\H1 p=none/\Pu J p/\DrQ cw p J x n wl ss ns tps/\J o=some (.lst [.ref x2,.ref n2,.ref s])/\o≠p/\DrQ cw p J x2 n2 s C B g:=⟨_,rfl⟩
  refine ⟨_,(qc (jf yU rfl (qU (K:=K) rfl (qx (jU (K:=K) rfl) (jA (qd3 (K:=K) rfl) (pv 0) j4 (jH qh)) (qJ (qa (qm Uv (hmR L) qz (qa (pv 0) (qa qh qd))) qd)))) (qq (i:=1) KK.nd rfl (yK rfl))
 (qc (qk (i:=2) KK.nd rfl (yK rfl) (qm Uk (hmR L) qz (qa (pv 1) qd)))
 (qc (jv (qm uP (hmR L) qz (qa (pv 2) qd)) (pg_tupU rfl (jx (qq (i:=3) KK.nd rfl (yK rfl)) (jx (qq (i:=4) KK.nd rfl (yK rfl)) (jx (qq (i:=5) KK.nd rfl (yK rfl)) qa9)))))
 (qc (qk (i:=6) KK.nd rfl (yK rfl) (qm uP (hmR L) qz (qa (pv 2) qd)))
 (qc (qk (i:=7) KK.nd rfl (yK rfl) (qm Km (hmR L) qz (qa (pv 2) (qa (qu (qbc rfl) rfl T.b_max boot_max (qa qh (qa (qu (qai (K:=K) rfl) rfl T.b_len xJ (qa (pv 4) qd)) qd))) qd))))
 (qc (qN (PW.pt (qa8 (qp (qbw (K:=K) rfl hu) (pv 4) (qJ qd) (qC _)) (qa8 (qp (zM (K:=K) rfl hu) (qm Km (hmR L) qz (qa (pv 2) (qa qh qd))) qh (qC _)) (qbP (qp (qbw (K:=K) rfl hu) (qm KU (hmR L) qz (qa (pv 3) (qa (qr (qt (K:=K) rfl hu) (pv 4) (pv 7) (fun _ _=>rfl)) qd))) (qr (qt (K:=K) rfl hu) (pv 5) (pv 7) (fun _ _=>rfl)) (qC _)))))) (qe (qj jF)) qv)
 (qcV TC105 (qc (qN (q8 (qY (qm uq (hmR L) qz (qa (pv 3) (qa (pv 4) (qa (pv 5) (qa (pe_lrng rfl rfl rfl T.b_list T.b_range (qa (qu (qai (K:=K) rfl) rfl T.b_len xJ (qa (pv 4) qd)) qd)) qd))))))) (qe (qj jF)) qv)
 (qc (qN (q8 (qY (qm uq (hmR L) qz (qa (qr (qt (K:=K) rfl hu) (pv 6) qh (fun _ _=>rfl)) (qa (qr (qt (K:=K) rfl hu) (pv 6) qh (fun _ _=>rfl)) (qa (qr (qt (K:=K) rfl hu) (pv 6) qh (fun _ _=>rfl)) (qa (qJ (qa (qm Km (hmR L) qz (qa (pv 2) (qa qh qd))) qd)) qd))))))) (qe (qj jF)) qv)
 (qc (jf yU rfl (qU (K:=K) rfl (qJ (qa zE (qa qh (qa jF (qa jh (qa jh (qa (qJ (qa (pv 4) qd)) (qa (jR qd) (qa jM (qa (j3 (k_tupleU (K:=K) rfl) rfl T.b_tuple boot_tuple (qa (pv 4) qd)) qd))))))))))) (qq (i:=8) KK.nd rfl (yK rfl))
 (qe (qN (q8 (qY (qm u4 (hmR L) qz (qa (pv 3) (qa (pv 8) qd))))) (qe (qj jF)) qv)))
 (qe (qN (q8 (qY (qm uq (hmR L) qz (qa (pv 3) (qa (pv 4) (qa (pv 5) (qa (qJ (qa (pv 7) qd)) qd))))))) (qe (qj jF)) qv))))) ?cut105)))))))
 (qe (qj jF))),?_⟩
  case cut105 =>
   intro D N J h;rw [af] at h;obtain ⟨H1,p,x,n,wl,o,x2,n2,s,ss,C,ns,B,tps,g,k,y1,y8,hD,rfl,sJ,bu,hP,dr,eo,op,O⟩:=h;have few:=dr.no.few;ext;refine vLR ?_;ext;refine qbV dr.nm ?_;rw [ya];ext;refine ⟨ss.length,rfl,by omega,fun ak bi=>?_⟩;have s1:=qF (Sr J) (o:=.lst ((List.range ss.length).map fun i=>V.int ((i:Nat):Int))) bi;have e1:upd J ak (.lst ((List.range ss.length).map fun i=>V.int ((i:Nat):Int))) ak=some (.lst ((List.range ss.length).map iV)):=qb;generalize upd J ak (.lst ((List.range ss.length).map fun i=>V.int ((i:Nat):Int)))=J1 at s1 e1;ext;refine ⟨x,n,wl,ak,ss,ns,tps,_,rfl,dr.wnw.same s1,e1,fun J2 s2=>?_⟩;have X:=s1.trans s2;ext;refine yq ?_;ext;have aj:=X _ _ eo;refine .inl (za aj (v:=.ref x2) (qo (j:=0) rfl) ?_);ext;refine .inl (za aj (v:=.ref n2) (qo (j:=1) rfl) ?_);ext;refine .inl (za aj (v:=.ref s) (qo (j:=2) rfl) ?_);ext;refine ⟨p,12,rfl,hP.same X,by decide,by decide,fun d J3 hd b3 al=>?_⟩;have ad:=(dr.same X).but b3;have ap:=(O.same X).but b3;have bv:L2.Same H1 J3:=fun c o e=>b3 _ _ (fun z=>by rw [z,bu] at e;cases e) (X _ _ (sJ c o e));ext;refine ⟨by show 1<=sizeLine;decide,fun aa av=>?_⟩;have s4:=qF (Sr J3) (o:=.lst [iV d]) av;have e4:upd J3 aa (.lst [iV d]) aa=some (.lst ([d].map iV)):=qb;generalize upd J3 aa (.lst [iV d])=J4 at s4 e4;ext;refine ⟨x2,n2,s,aa,C,B,g,_,rfl,ap.wnw.same s4,e4,fun J5 s5=>?_⟩;have ao:=s4.trans s5;have I:=ad.same ao;have bw:=bv.trans ao;ext;refine yq ?_;ext;refine ⟨by show 1<=sizeLine;decide,fun g1 bj=>?_⟩;have s6:=qF (Sr J5) (o:=.lst [.ref n]) bj;have e6:upd J5 g1 (.lst [.ref n]) g1=some (.lst [.ref n]):=qb;generalize upd J5 g1 (.lst [.ref n])=J6 at s6 e6;ext;refine ⟨by show 0<=sizeLine;decide,fun g2 bm=>?_⟩;have s7:=qF (Sr J6) (o:=.tup []) bm;have e7:upd J6 g2 (.tup []) g2=some (.tup []):=qb;generalize upd J6 g2 (.tup [])=J7 at s7 e7;ext;intro g3 bn;have s8:=qF (Sr J7) (o:=.dK []) bn;have e8:upd J7 g3 (.dK []) g3=some (.dK []):=qb;generalize upd J7 g3 (.dK [])=J8 at s8 e8;have bc:=(s6.trans s7).trans s8;ext;have aq:=I.same bc;refine ⟨n,_,rfl,.inl ⟨.of aq.nm,fun g4 bo=>?_⟩⟩;have s9:=qF (Sr J8) (o:=.tup (ss.map V.str)) bo;have e9:upd J8 g4 (.tup (ss.map V.str)) g4=some (.tup (ss.map V.str)):=qb;generalize upd J8 g4 (.tup (ss.map V.str))=J9 at s9 e9
   have hm:∀ v∈[V.non,.int 0,.bl true,.str "",.str "zzzzzzz",.ref g1,.ref g2,.ref g3,.ref g4],BdT J9 v:=fun v hv=>by
    simp only [yv,yG,Yl] at hv;have sh:=qdA 0 dr.no.nm;rcases hv with rfl | rfl | rfl | rfl | rfl | rfl | rfl | rfl | rfl
    ·exact ⟨_,.non,Shw.non.mono (by decide) (yh _),fun _ e=>by cases e⟩
    ·exact ⟨_,.int 0,(Shw.int (by decide) (by decide)).mono (by decide) (yh _),fun _ e=>by cases e⟩
    ·exact ⟨_,.bl true,Shw.bl.mono (by decide) (yh _),fun _ e=>by cases e⟩
    ·exact ⟨_,.str _,(Shw.str (by decide)).mono (by decide) (yh _),fun _ e=>by cases e;decide⟩
    ·exact ⟨_,.str _,(Shw.str (by decide)).mono (by decide) (yh _),fun _ e=>by cases e;decide⟩
    ·exact BdT.ref (.lst ((s7.trans s8).trans s9 _ _ e6) (.cons (.lst (s9 _ _ aq.nm) (DatS.strs ss)) .nil)) (ShwS.cons sh.list .nil).list (by omega) (by decide)
    ·exact BdT.ref (.tup ((s8.trans s9) _ _ e7) .nil) (ShwS.nil (m:=0)).tuple (by decide) (by decide)
    ·exact BdT.ref (.dnil (s9 _ _ e8)) (Shw.dnil (m:=0)) (by decide) (by decide)
    ·exact BdT.ref (.tup e9 (DatS.strs ss)) sh.tuple (by omega) (by decide)
   ext;refine ⟨by show 9<=sizeLine;decide,fun lt br=>?_⟩;have am:=qF (Sr J9) (o:=.lst [V.non,.int 0,.bl true,.str "",.str "zzzzzzz",.ref g1,.ref g2,.ref g3,.ref g4]) br;have ae:upd J9 lt (.lst [V.non,.int 0,.bl true,.str "",.str "zzzzzzz",.ref g1,.ref g2,.ref g3,.ref g4]) lt=some (.lst [V.non,.int 0,.bl true,.str "",.str "zzzzzzz",.ref g1,.ref g2,.ref g3,.ref g4]):=qb;generalize upd J9 lt (.lst [V.non,.int 0,.bl true,.str "",.str "zzzzzzz",.ref g1,.ref g2,.ref g3,.ref g4])=J10 at am ae;have hm:=fun v hv=>(hm v hv).same am;generalize [V.non,.int 0,.bl true,.str "",.str "zzzzzzz",.ref g1,.ref g2,.ref g3,.ref g4]=xs at hm ae;have Y:=(bc.trans s9).trans am;have ah:=I.same Y;have ca:=al.same (ao.trans Y);have bb:=bw.trans Y;refine .inl ⟨⟨_,.of ae⟩,qT (xs:=xs) (fun i N G=>L2.Same J10 G/\∃ y8,N=[some (.ref a),y1,some (.ref p),some (.ref x),some (.ref n),some (.ref wl),some (.ref o),some (.int (k:Int)),y8]) ⟨L2.Same.refl J10,_,rfl⟩ (fun i N G _ U=>.of (U.1 _ _ ae)) (fun i y N G hy U=>?_) fun N G U=>?_⟩
   ·obtain ⟨sG,bz,rfl⟩:=U;ext;refine ⟨x,ss,ns,y,rfl,(ah.same sG).wb.web,(hm y (ye hy)).same sG,fun G2 s2=>?_⟩;ext;refine yq ?_;exact ⟨sG.trans s2,_,rfl⟩
   ·obtain ⟨sG,bz,rfl⟩:=U;ext;refine ⟨by show 1<=sizeLine;decide,fun ac aw=>?_⟩;have an:=qF (Sr G) (o:=.lst [iV k]) aw;have ar:upd G ac (.lst [iV k]) ac=some (.lst ([k].map iV)):=qb;generalize upd G ac (.lst [iV k])=G1 at an ar;ext;refine ⟨x,n,wl,ac,ss,ns,tps,_,rfl,(ah.same sG).wnw.same an,ar,fun G2 ag=>?_⟩;ext;refine yq ?_;exact hD _ _ (bb.trans (sG.trans (an.trans ag))) ⟨_,_,_,_,_,_,_,_,rfl⟩
  ·ext;refine .inl ⟨a,_,rfl,hS,fun k bp=>?_⟩
   obtain ⟨M,bf,ce⟩:∃ M:List Int,qcL (nz.map V.int) none (some 2)=M.map V.int/\M.length<=2:=by
    have:=qbm (nz.map V.int) 2;rw [show ((2:Nat):Int)=2 from rfl] at this;exact ⟨nz.take 2,by rw [this,List.map_take],by rw [yP];omega⟩
   rw [bf];have s1:=qF (Sr H) (o:=.lst (M.map V.int)) bp;have ax:upd H k (.lst (M.map V.int)) k=some (.lst (M.map V.int)):=qb;generalize upd H k (.lst (M.map V.int))=H1 at s1 ax;ext;refine ⟨a,nz,2,rfl,s1.seq hS,by decide,fun c8=>?_⟩;ext;refine ⟨by show 1<=sizeLine;decide,fun k2 az=>?_⟩;have ag:=qF (Sr H1) (o:=.lst [.int c8]) az;have ay:upd H1 k2 (.lst [.int c8]) k2=some (.lst [.int c8]):=qb;generalize upd H1 k2 (.lst [.int c8])=H2 at ag ay;refine .inl ⟨k,k2,_,_,rfl,rfl,ag _ _ ax,ay,by rw [ya];exact Yc (qi (by simp only [yC,YX];omega)),fun lc cd=>?_⟩;have be:M.map V.int++[.int c8]=(M++[c8]).map V.int:=by rw [yE];rfl
   rw [be];have e3:upd H2 lc (.lst ((M++[c8]).map V.int)) lc=some (.lst ((M++[c8]).map V.int)):=qb;generalize upd H2 lc (.lst ((M++[c8]).map V.int))=H3 at e3;generalize M++[c8]=cs at e3;refine .inl ⟨⟨_,.of e3⟩,qT (xs:=cs.map V.int) (fun i N J=>L2.Same H3 J/\∃ y1 y2 y3 y4 y5 y6 y7 y8,N=[some (.ref a),y1,y2,y3,y4,y5,y6,y7,y8]) ⟨L2.Same.refl H3,_,_,_,_,_,_,_,_,rfl⟩ (fun i N J _ U=>.of (U.1 _ _ e3)) (fun i y N J hy U=>?_) fun N J U=>?_⟩
   ·obtain ⟨sJ,y1,y2,y3,y4,y5,y6,y7,y8,rfl⟩:=U;rw [yd] at hy;obtain ⟨c,hc,rfl⟩:=yn.mp hy;ext;refine ⟨c,rfl,fun p J1 bx bt bg=>?_⟩;have W:H3 p=none:=sJ.free bt;ext;refine vAsgU ?_;ext;refine ⟨p,rfl,bg,fun l x n wl ss ns tps J2 b2 bh el lp dr=>?_⟩;refine ⟨l,_,rfl,.inr (.of el),rfl,_,_,rfl,_,_,rfl,_,_,rfl,rfl,?_⟩;ext;refine ⟨p,rfl,bh,fun o x2 n2 s C B g J3 b3 al eo op O=>?_⟩;have ad:=dr.but b3;have few:=dr.no.few;ext;refine qbV ad.nm ?_;rw [ya];refine ⟨_,_,rfl,?_⟩;have em:(if (ss.length:Int)>1 then (ss.length:Int) else 1)=((max 1 ss.length:Nat):Int):=by split<;>omega
    rw [em];ext;refine ⟨p,max 1 ss.length,rfl,al,by omega,by omega,fun k J4 hk b4 as=>?_⟩;have bd:=ad.but b4;ext;refine ⟨by show 0<=sizeLine;decide,fun z hz=>?_⟩;have s5:=qF (Sr J4) (o:=.lst []) hz;have ez:upd J4 z (.lst []) z=some (.lst []):=qb;generalize upd J4 z (.lst [])=J5 at s5 ez;have I:=bd.same s5;have A:But p J3 J5:=fun c o hc e=>s5 _ _ (b4 c o hc e);have b1:But p H3 J5:=fun c o hc e=>A _ _ hc (b3 c o hc (b2 c o hc (bx c o (sJ c o e))));have S:∀ G,But p J5 G->L2.Same H3 G:=fun G b c o e=>b c o (fun z=>by rw [z,W] at e;cases e) (b1 c o (fun z=>by rw [z,W] at e;cases e) e);refine ne_nilS I.nm ez ?_;ext;refine qQ (fun ba=>?_) fun ba=>?_
    ·have bq:k<ss.length:=by
      cases ss with
      | nil=>cases ba
      | cons u r=>simp only [yC] at hk ⊢;omega
     have gk:ss[k]?=some ss[k]:=yb bq;generalize ss[k]=v at gk;ext;refine ⟨p,2,rfl,as.same s5,by decide,by decide,fun d J6 hd b6 au=>?_⟩;have R:=I.but b6;ext;refine qcW ?_;ext;refine qQ (fun h0=>?_) fun h0=>?_
     ·ext;refine .inl (za R.nm (qo (v:=.str v) (by rw [yd,gk];rfl)) ?_);ext;refine ⟨x,ss,ns,tps,v,rfl,R.wnw.web,ye gk,fun J7 s7=>?_⟩;ext;refine .inl (za (s7 _ _ R.wd) (qo (v:=wdS tps ss ns v) (by rw [yd,gk];rfl)) ?_);refine .inl ⟨rfl,rfl,?_⟩;rw [yF rfl,show eqV (wdS tps ss ns v) (wdS tps ss ns v)=true by unfold wdS;simp [eqV]];ext;refine yq ?_;ext;have ai:But p J5 J7:=fun c o hc e=>s7 _ _ (b6 c o hc e);rw [af];exact ⟨H3,p,x,n,wl,o,x2,n2,s,ss,C,ns,B,tps,g,k,_,_,fun Z J' s' e'=>⟨s',e'⟩,rfl,S _ ai,W,au.same s7,R.same s7,ai _ _ op (A _ _ op eo),op,(O.but A).but ai⟩
     ·refine yq ?_;ext;rw [af];exact ⟨H3,p,x,n,wl,o,x2,n2,s,ss,C,ns,B,tps,g,k,_,_,fun Z J' s' e'=>⟨s',e'⟩,rfl,S _ b6,W,au,R,b6 _ _ op (A _ _ op eo),op,(O.but A).but b6⟩
    ·refine yq ?_;ext;rw [af];exact ⟨H3,p,x,n,wl,o,x2,n2,s,ss,C,ns,B,tps,g,k,_,_,fun Z J' s' e'=>⟨s',e'⟩,rfl,S _ (fun c o _ e=>e),W,as.same s5,I,A _ _ op eo,op,O.but A⟩
   ·obtain ⟨sJ,y1,y2,y3,y4,y5,y6,y7,y8,rfl⟩:=U;ext;exact q J
end
theorem all_mk {l:W.OpenLaw} {w:World} {h:Heap} {r:Str->Option Value} {fa f d p t c:Addr} {z A B:Tok} (X:K.In h) (G:h.Ns mainGlobals r) (O:r "law"=some (.ref fa))
  (C0_:W.nsIn K mainGlobals "NoPlace"=some (some (.ref p)))
  (C1_:W.nsIn K mainGlobals "NoPairs"=some (some (.ref t)))
  (C2_:W.nsIn K mainGlobals "OnceError"=some (some (.ref c)))
  (Cw_:W.nsIn K mainGlobals "Web"=some (some (.ref f)))
  (Cf_:W.nsIn K mainGlobals "Forest"=some (some (.ref d)))
  (vJ:FG K "are_pairs" zA)
  (U9:FG K "partners_in" jX)
  (vx:FG K "told_pairs" jS)
  (Vx:FG K "is_row" qaZ)
  (UJ:FG K "are_unlike_places" jd)
  (UY:FG K "goes_by_turns" qO)
  (vO:FG K "can_turn" qac)
  (Vy:FG K "turned" qaA)
  (vP:FG K "greatest" qad)
  (UZ:FG K "greatest_from" jD)
  (v7:FG K "sort_of" zR)
  (wW:FG K "sorts" qb6)
  (vQ:FG K "word_for" zr)
  (wX:FG K "loose" qb7)
  (Wa:FG K "held" qdw)
  (Wc:FG K "fast" qdx)
  (vc:FG K "places_with" jE)
  (v8:FG K "is_name" j6)
  (v9:FG K "has_bit" qax)
  (vR:FG K "is_place" zo)
  (UQ:FG K "are_two_places" jt)
  (vy:FG K "numbers_of" zg)
  (Va:FG K "near_of" qay)
  (Vz:FG K "_law_cell" qa2)
  (Vb:FG K "_law_purse" qaB)
  (VA:FG K "_law_take" qa3)
  (Vc:FG K "_law_names" zP)
  (VB:FG K "_law_ties" qa5)
  (VC:FG K "_law_many" qa4)
  (VD:FG K "_law_made" qa6)
  (VE:FG K "_law_bits" qa7)
  (Vd:FG K "_law_table" qaD)
  (VF:FG K "_law_free" qaE)
  (VG:FG K "_law_near" qaf)
  (Ve:FG K "_law_words" zS)
  (Vf:FG K "_law_lists" qaF)
  (Vg:FG K "_law_right" zT)
  (vK:FG K "_law_refused" zD)
  (Vh:FG K "_law_drawn" qaG)
  (Wi:FG K "law" qc0)
  (WA:FM K p "__init__" "NoPlace.__init__" jN)
  (WB:FC K c "__init__" "OnceError.__init__" js)
  (WC:FM K f "__init__" "Web.__init__" zY)
  (vS:FM K f "places" "Web.places" zi)
  (VH:FM K f "ties" "Web.ties" qab)
  (ve:FM K f "has_place" "Web.has_place" jk)
  (vL:FM K f "has_tie" "Web.has_tie" jW)
  (vf:FM K f "number_of" "Web.number_of" jl)
  (vT:FM K f "beside" "Web.beside" zj)
  (U0:FM K f "bits_beside" "Web.bits_beside" jm)
  (VI:FM K f "tied" "Web.tied" zZ)
  (vz:FM K f "names_in" "Web.names_in" jq)
  (vg:FM K d "__init__" "Forest.__init__" jZ)
  (VJ:FM K d "row" "Forest.row" zk)
  (vA:FM K d "reached" "Forest.reached" je)
  (Vi:FM K d "grow" "Forest.grow" jY)
  (vV:FM K d "reach" "Forest.reach" jP)
  (UR:FM K d "look_around" "Forest.look_around" qX)
  (UK:FM K d "bring_together" "Forest.bring_together" qG)
  (UF:FM K d "bases_down_from" "Forest.bases_down_from" qL)
  (US:FM K d "reach_round" "Forest.reach_round" qW)
  (Vj:FM K d "fold" "Forest.fold" jC)
  (X0:XL K p (.ref c::qcv))
  (q0:XQ K p)
  (X1:XL K t (.ref c::qcv))
  (q1:XQ K t)
  (X2:XL K c qcv)
  (q2:XQ K c)
  (y0:W.findIn K (.ref p) "found"=some none)
  (y1:W.findIn K (.ref t) "found"=some none)
  (S:W.mroIn K p (.ref c)=some true)
  (U:W.mroIn K t (.ref c)=some true)
  (nd:([p,t]++[c]).Nodup)
  (r1:W.readsIn K c (.type "type")=true)
  (r3:W.specialIn K (.ref c) "__getattribute__"=some (some (.builtin "type.__getattribute__")))
  (v1:W.findIn K (.type "type") "__getattribute__"=some (some (.builtin "type.__getattribute__")))
  (v3:W.subIn K (.type "type") (.type "type")=some true)
  (v4:W.findCls K (.type "ValueError") (.type "type") "__init__"=some (.val (.builtin "ValueError.__init__")))
  (w1:W.plainGet K f Str.empty=true)
  (w2:W.hasDictIn K f=true)
  (w3:W.plainOver K f=true)
  (w4:W.findIn K (.ref f) "__setattr__"=some (some (.builtin "object.__setattr__")))
  (w5:W.makesIn K f=true)
  (w6:W.keepIn K (.ref f)=true)
  (w7:W.findIn K (.ref f) "numbers"=some none)
  (w8:W.findIn K (.ref f) "order"=some none)
  (w9:W.findIn K (.ref f) "near"=some none)
  (x:W.specialIn K (.builtin "object.__class__") "__get__"=some (some (.builtin "getset_descriptor.__get__")))
  (y:W.takesIn K (.builtin "object.__class__")=some true)
  (aa:W.plainGet K d Str.empty=true)
  (ac:W.hasDictIn K d=true)
  (ad:W.plainOver K d=true)
  (ae:W.findIn K (.ref d) "__setattr__"=some (some (.builtin "object.__setattr__")))
  (af:W.makesIn K d=true)
  (ag:W.keepIn K (.ref d)=true)
  (ap:W.findIn K (.ref d) "board"=some none)
  (aq:W.findIn K (.ref d) "partners"=some none)
  (ar:W.findIn K (.ref d) "rows"=some none)
  (as:W.findIn K (.ref d) "parents"=some none)
  (au:W.findIn K (.ref d) "bases"=some none)
  (av:W.findIn K (.ref d) "rings"=some none)
  (aw:W.findIn K (.ref d) "waiting"=some none)
  (ax:W.findIn K (.ref d) "longer"=some none)
  (al:W.nsIn K mainGlobals "zip"=some none)
  (C:W.nsIn K mainGlobals "any"=some none)
  (D:W.nsIn K mainGlobals "dict"=some none)
  (E:W.nsIn K mainGlobals "repr"=some none)
  (ah:(K.lookup sysModules).isSome=true)
  (Y:W.mroIn K p (.ref p)=some true)
  (z0:W.nsIn K mainGlobals "len"=some none)
  (z1:W.nsIn K mainGlobals "int"=some none)
  (z2:W.nsIn K mainGlobals "enumerate"=some none)
  (z3:W.nsIn K mainGlobals "all"=some none)
  (z4:W.nsIn K mainGlobals "max"=some none)
  (z5:W.nsIn K mainGlobals "min"=some none)
  (z6:W.nsIn K mainGlobals "isinstance"=some none)
  (z7:W.nsIn K mainGlobals "bool"=some none)
  (z8:W.nsIn K mainGlobals "str"=some none)
  (z9:W.nsIn K mainGlobals "range"=some none)
  (ai:W.nsIn K mainGlobals "list"=some none)
  (aj:W.nsIn K mainGlobals "tuple"=some none)
  (ak:W.nsIn K mainGlobals "ValueError"=some none)
  (u0:W.nsIn K mainGlobals "LONGEST_NAME"=some (some (.int 6 z)))
  (u1:W.nsIn K mainGlobals "MOST_PLACES"=some (some (.int 14 A)))
  (u2:W.nsIn K mainGlobals "MOST_TIES"=some (some (.int 30 B))) :
  ∃ fd:FuncData,(∀ (s:Shared) (v:Value),BindsTo s fd ⟨[v],[]⟩ [("_law_script",v)])/\∀ base:Heap,K.In base->base.Ns mainGlobals r->FnOk l.prog w K r base CX0 21 fa fd ["_law_script"] (spLaw K):=by
 obtain ⟨_,_,vM,VX⟩:=vJ;obtain ⟨_,_,vh,VY⟩:=U9;obtain ⟨_,_,vD,VZ⟩:=vx;obtain ⟨_,_,VL,V0⟩:=Vx;obtain ⟨_,_,UL,V1⟩:=UJ;obtain ⟨_,_,U1,V2⟩:=UY;obtain ⟨_,_,vW,V3⟩:=vO;obtain ⟨_,_,VM,V4⟩:=Vy;obtain ⟨_,_,vX,V5⟩:=vP;obtain ⟨_,_,U2,V6⟩:=UZ;obtain ⟨_,_,U5,F⟩:=v7;obtain ⟨_,_,wY,V7⟩:=wW;obtain ⟨_,_,vY,V8⟩:=vQ;obtain ⟨_,_,wZ,V9⟩:=wX;obtain ⟨_,_,Wd,wa⟩:=Wa;obtain ⟨_,_,We,wc⟩:=Wc;obtain ⟨_,_,vi,we⟩:=vc;obtain ⟨_,_,U6,H⟩:=v8;obtain ⟨_,_,Vk,wf⟩:=v9;obtain ⟨_,_,U3,I⟩:=vR;obtain ⟨_,_,UT,wg⟩:=UQ;obtain ⟨_,_,vE,wj⟩:=vy;obtain ⟨_,_,Vl,wm⟩:=Va;obtain ⟨_,_,VN,wq⟩:=Vz;obtain ⟨_,_,Vm,wu⟩:=Vb;obtain ⟨_,_,VO,wv⟩:=VA;obtain ⟨_,_,Vn,ww⟩:=Vc;obtain ⟨_,_,VP,wy⟩:=VB;obtain ⟨_,_,VQ,wz⟩:=VC;obtain ⟨_,_,VR,wA⟩:=VD;obtain ⟨_,_,VS,wB⟩:=VE;obtain ⟨_,_,Vo,wC⟩:=Vd;obtain ⟨_,_,VT,wD⟩:=VF;obtain ⟨_,_,VU,wE⟩:=VG;obtain ⟨_,_,Vp,wF⟩:=Ve;obtain ⟨_,_,Vq,wG⟩:=Vf;obtain ⟨_,_,Vr,wH⟩:=Vg;obtain ⟨_,_,vN,wI⟩:=vK;obtain ⟨_,_,Vs,wJ⟩:=Vh;obtain ⟨_,_,Wj,wK⟩:=Wi;obtain ⟨_,_,WD,WE,Wf⟩:=WA;obtain ⟨_,_,WF,Wg⟩:=WB;obtain ⟨_,_,WH,WI,Wh⟩:=WC;obtain ⟨_,_,Wk,Wl,wL⟩:=vS;obtain ⟨_,_,Wm,Wn,wM⟩:=VH;obtain ⟨_,_,wN,wO,J⟩:=ve;obtain ⟨_,_,Wo,Wp,wP⟩:=vL;obtain ⟨_,_,wQ,wR,L⟩:=vf;obtain ⟨_,_,Wq,Wr,wS⟩:=vT;obtain ⟨_,_,Ws,Wu,wT⟩:=U0;obtain ⟨_,_,Ww,Wx,wU⟩:=VI;obtain ⟨_,_,Wy,Wz,wV⟩:=vz;obtain ⟨_,_,vm,vn,UI⟩:=vg;obtain ⟨_,_,VV,VW,vF⟩:=VJ;obtain ⟨_,_,vG,vH,UP⟩:=vA;obtain ⟨_,_,Vt,Vu,U7⟩:=Vi;obtain ⟨_,_,vZ,v6,U4⟩:=vV;obtain ⟨_,_,UU,UV,UD⟩:=UR;obtain ⟨_,_,UM,UO,UC⟩:=UK;obtain ⟨_,_,UG,UH,UB⟩:=UF;obtain ⟨_,_,UW,UX,UE⟩:=US;obtain ⟨_,_,Vv,Vw,U8⟩:=Vj;have e:=O.symm.trans (kJ X G Wj);cases e;have Y0:XAt K p:=qfh X0 qd9 q0 x y;have Y1:XAt K t:=qfh X1 qd9 q1 x y;have Y2:XAt K c:=qfh X2 qd8 q2 x y;obtain ⟨P,am,R,ao⟩:=kits nd (fun i q=>match i,q with | 0,_=>X0 | 1,_=>X1 | n+2,h=>absurd h (by simp only [yC,YX];omega)) X2;have g:Cls K f:=⟨w1,w2,w3,w4⟩;have m:Cls K d:=⟨aa,ac,ad,ae⟩
 have Z:∀ a∈fAtt,NoAttr K d a:=fun a N=>by
  unfold fAtt at N;simp only [yv,yG,Yl] at N;rcases N with rfl | rfl | rfl | rfl | rfl | rfl | rfl | rfl<;>assumption
 have u:∀ i,i<3->([p,t,c,c,c,c,c,c,c]:List Addr).getD i d=([p,t]:List Addr).getD i c:=fun i q=>match i,q with | 0,_=>rfl | 1,_=>rfl | 2,_=>rfl | n+3,h=>absurd h (by omega);have T:Txt K r (fun i=>([p,t,c,c,c,c,c,c,c]:List Addr).getD i d) f:=⟨YE X G z0,
  YE X G z1,
  YE X G z2,
  YE X G z3,
  YE X G z4,
  YE X G z5,
  YE X G z6,
  YE X G z7,
  YE X G z8,
  YE X G z9,
  YE X G ai,
  YE X G aj,
  YE X G ak,
  ⟨z,kJ X G u0⟩,
  ⟨A,kJ X G u1⟩,
  ⟨B,kJ X G u2⟩,
  kJ X G C0_,
  kJ X G C1_,
  kJ X G C2_,
  ⟨v1,v3,v4⟩,
  fun i q=>match i,q with | 0,_=>Y0 | 1,_=>Y1 | 2,_=>Y2 | n+3,h=>absurd h (by omega),
  fun i q=>match i,q with | 0,_=>y0 | 1,_=>y1 | n+2,h=>absurd h (by omega),
  (fun i j q hj=>by rw [u i (by omega),u j (by omega)];exact P i j q hj),
  (fun i q=>by rw [u i (by omega)];exact R i q),
  fun i q=>match i,q with | 0,_=>S | 1,_=>U | n+2,h=>absurd h (by omega),
  g,
  w7,
  w8,
  w9,
  kJ X G Cw_,
  kJ X G Cf_,
  m,
  Z,
  YE X G al,
  YE X G C,
  YE X G D,
  YE X G E,
  YV.mp ah⟩
 obtain ⟨oc,od,kV,M,pm,an,cd,ct,sl,rfl,lk,hc⟩:=wK.ex;refine ⟨W.fnOf "law" "law" (qah qc0) (zt qc0) (qg qc0) .none kV M pm an cd ct,fun s v=>.of_eq rfl,fun base _ _=>?_⟩;have d_once:CMethOk l.prog w K r base CX0 1 c "OnceError" "__init__" ["self","text"] (spOnce K):=fc_mk X G C2_ r1 WF r3 Wg (ok_once Wg T);have d0:XMakeOk l.prog w K r base 2 p "NoPlace" ["self","found"] (spX p (qfw 0)):=fx_mk X G C0_ Y0 q0 WD WE Wf (ok_NoPlace Wf T d_once);have b:=@fg_mk l.prog w K r base h;have o:=@fm_mk l.prog w K r base;have fw:=@fw_mk l.prog w K r base h;have d_name:=b X G U6 H (ok_name H T);have d_place:=b X G U3 I (ok_place I d_name);have d_two:=b X G UT wg (ok_two wg T d_place);have d_bit:=b X G Vk wf (ok_bit wf);have d_nums:=b X G vE wj (ok_nums wj T d_name);have d_near:=b X G Vl wm (ok_near wm T d_two d_bit);have q_web:MakeOk l.prog w K r base CX0 5 f "Web" ["self","names","ties"] (spWeb f):=fw X G Cw_ w5 w6 WH WI Wh (ok_web Wh T d_nums d_near);have m_has:=o g wN wO J (ok_has J T d_place);have m_num:=o g wQ wR L (ok_num L T m_has);have m_bb:=o g Ws Wu wT (ok_bb wT T m_num);have m_nin:=o g Wy Wz wV (ok_nin wV T d_bit);have m_bs:=o g Wq Wr wS (ok_bs wS T m_bb m_nin);have m_tied:=o g Ww Wx wU (ok_tied wU T m_bb m_num d_bit);have m_pls:=o g Wk Wl wL (ok_pls wL T);have m_ts:=o g Wm Wn wM (ok_ts wM T m_bs);have m_ht:=o g Wo Wp wP (ok_ht wP T d_two m_tied);have d_ap:=b X G vM VX (ok_ap VX T m_ht);have d_pn:=b X G vh VY (ok_pn VY T d_ap);have d_tp:=b X G vD VZ (ok_tp VZ T d_pn m_ts);have d_ul:=b X G UL V1 (ok_ul V1 T m_has);have d_gt:=b X G U1 V2 (ok_gt V2 T m_ht);have d_ir:=b X G VL V0 (ok_ir V0 T d_pn d_ul d_gt);have d_ct:=b X G vW V3 (ok_ct V3 T d_pn d_ir);have d_tu:=b X G VM V4 (ok_tu V4 T d_pn m_ts d_ct);have p_re:=o m vZ v6 U4 (ok_re U4 T);have p_bd:=o m UG UH UB (ok_bd UB T);have p_rr:=o m UW UX UE (ok_rr UE T p_re);have p_fd:=o m Vv Vw U8 (ok_fdF U8 T m_pls);have p_bt:=o m UM UO UC (ok_bt UC T p_bd p_rr p_fd);have p_la:=o m UU UV UD (ok_la UD T m_bs p_bt p_re);have p_gw:=o m Vt Vu U7 (ok_gw U7 T m_pls p_re p_la);have p_mk:MakeOk l.prog w K r base CX0 10 d "Forest" ["self","web","pairs"] (spFi (fun i=>([p,t,c,c,c,c,c,c,c]:List Addr).getD i d) f):=fw X G Cf_ af ag vm vn UI (ok_fi UI T d_pn p_gw);have p_row:=o m VV VW vF (ok_fr vF T);have p_rch:=o m vG vH UP (ok_fd2 UP T m_pls);have d_gf:=b X G U2 V6 (ok_gf V6 T d_tp p_mk p_row d_tu);have d_gr:=b X G vX V5 (ok_gr V5 T d_gf);have d_lo:=b X G wZ V9 (ok_lo V9 T d_gr p_mk p_rch);have d_wf:=b X G vY V8 (ok_wf V8 T m_bs);have d_so:=b X G wY V7 (ok_so V7 T d_lo d_wf m_pls);have d_pw:=b X G vi we (ok_pw we T d_so m_pls);have d_he:=b X G Wd wa (ok_he wa T d_pw);have d_fa:=b X G We wc (ok_fa wc T d_pw);have d_tk:=b X G VO wv (ok_tkp wv T);have b_name:=b X G U6 H (ok_nameB H T);have b_place:=b X G U3 I (ok_placeB I b_name);have b_has:=o g wN wO J (ok_hasB J T b_place);have b_num:=o g wQ wR L (ok_numB L T b_has d0);have d_st:=b X G U5 F (ok_stf F T m_num d_so);have b_st:=b X G U5 F (ok_stfB F T b_num d_so);have d_wds:=b X G Vp wF (ok_wdQ wF T (b X G Vo wC (ok_tbQ wC T)) (b X G VT wD (ok_feQ wD T)) (b X G VU wE (ok_nrQ wE T)));have d_dr:=b X G Vs wJ (ok_drQ wJ T (b X G VQ wz (ok_my wz T d_tk)) (b X G Vn ww (ok_nmJ ww T d_tk)) (b X G VP wy (ok_tsJ wy T d_tk)) (b X G VR wA (ok_mdJ wA T q_web)) (b X G VS wB (ok_btJ wB T)) d_wds);have d_rg:=b X G Vr wH (ok_rgQ wH T d_st d_so (b X G Vq wG (ok_lsQ wG T d_lo d_he d_fa)));have d_rf:=b X G vN wI (ok_rfQ wI T Y b_st);exact ok_law46 wK T (b X G VN wq (ok_ce wq T)) (b X G Vm wu (ok_pu wu T)) d_tk d_dr d_st d_rg d_rf
theorem walk {l:PySem.W.OpenLaw} {q:Program} {loose:List Str} {XP:(Str->Option Value)->Heap->Prop} {YP:World->Heap->Prop} {d:DefRec} {K:Params->yg} (m:l.most=some 63) (c:d.params.defaults=[])
  (j:∀ (w:World) (h:Heap),YP w h->(K w.params).In h)
  (F:∀ (w:World) (b:Str->Option Value) (e:Addr) (h:Heap),(K w.params).In h->h.Ns mainGlobals b->b d.name=some (.ref e) ->
   ∃ g:FuncData,(∀ (s:Shared) (u:Value),BindsTo s g ⟨[u],[]⟩ [("_law_script",u)])/\∀ base:Heap,(K w.params).In base->base.Ns mainGlobals b->FnOk l.prog w (K w.params) b base CX0 21 e g ["_law_script"] (spLaw (K w.params))) :
  PySem.W.WalkO q loose XP YP l.row.toRowW d [] (fun f vs=>PySem.call f vs):=
 L2.walk_of (n:=63) (k:=21) (x:="_law_script") (CX:=fun _=>CX0) (sp:=fun w=>spLaw (K w.params)) m (by decide) c ⟨rfl,by decide,by decide,rfl⟩ j F (fun _ _ a ns hl _ i=>⟨a,ns,rfl,i,hl,fun _=>rfl⟩) fun _ _ _ _ _ z=>z
end K46
set_option maxRecDepth 100000 in
set_option maxHeartbeats 0 in
theorem PySem.Challenge.cw_onceroad_k46_sorts_by_own_counts_holds : PySem.Challenge.rw_onceroad_k46_sorts_by_own_counts.Holds := by
  w_on; o_law
  refine PySem.W.holds_open (q := K46.Q) (loose := []) (Xt := K46.Xt) (XP := PySem.W.XL K46.Q []) (Yf := PySem.W.Hook.obs K46.Hk) (Ya := PySem.W.Hook.val K46.Hk) (YP := PySem.W.Hook.says (PySem.W.kHook K46.Kf K46.ks K46.ks_eq)) (N := K46.NN) K46.hl (PySem.W.Hook.of K46.Hk) (PySem.W.Hook.keeps K46.Hk) (fun s e => PySem.W.xl_of s (Bool.and_eq_true_iff.mp e).1) PySem.W.XL.keeps (by rfl) (by rfl) (by rfl) (fun s e => PySem.W.recFacts_of (Bool.and_eq_true_iff.mp e).2) (by rfl) (by first | assumption | decide +kernel) (by decide +kernel) ⟨rfl, rfl, rfl, rfl, rfl, by decide +kernel⟩ ?hw ?hc
  (case hw => w_witness2)
  k_fill
  refine K46.walk (l := PySem.Challenge.rw_onceroad_k46_sorts_by_own_counts) rfl rfl (fun w h Y => PySem.W.kIn_of Y) ?F
  case F =>
    intro w mg fa h KX G hmg
    refine' K46.all_mk KX G hmg ?_ ?_ ?_ ?_ ?_ ?_ ?_ ?_ ?_ ?_ ?_ ?_ ?_ ?_ ?_ ?_ ?_ ?_ ?_ ?_ ?_ ?_ ?_ ?_ ?_ ?_ ?_ ?_ ?_ ?_ ?_ ?_ ?_ ?_ ?_ ?_ ?_ ?_ ?_ ?_ ?_ ?_ ?_ ?_ ?_ ?_ ?_ ?_ ?_ ?_ ?_ ?_ ?_ ?_ ?_ ?_ ?_ ?_ ?_ ?_ ?_ ?_ ?_ ?_ ?_ ?_ ?_ ?_ ?_ ?_ ?_ ?_ ?_ ?_ ?_ ?_ ?_ ?_ ?_ ?_ ?_ ?_ ?_ ?_ ?_ ?_ ?_ ?_ ?_ ?_ ?_ ?_ ?_ ?_ ?_ ?_ ?_ ?_ ?_ ?_ ?_ ?_ ?_ ?_ ?_ ?_ ?_ ?_ ?_ ?_ ?_ ?_ ?_ ?_ ?_ ?_ ?_ ?_ ?_ ?_ ?_ ?_ ?_ ?_ ?_ ?_ ?_ ?_ ?_ ?_
    any_goals first | k_is | decide
    any_goals first | k_is | decide | exact ⟨_, _, by k_is, L2.fun_mk (by k_is) (by k_is) (by k_is)⟩ | exact ⟨_, _, by k_is, by k_is, L2.fun_mk (by k_is) (by k_is) (by k_is)⟩ | exact ⟨_, _, _, _, _, _, _, _, _, _, _, _, _, _, _, by k_is⟩ | exact ⟨by k_is, by k_is, by k_is, by k_is, by k_is, by k_is, by k_is, by k_is⟩ | kernel_rfl | fail
